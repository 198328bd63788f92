import PyProof.Rows.All
import Wide.All
import OpenK.AllK
import Wide.FinOn
import Lean
import PyProof.EqAt
import PyProof.EqKinds
import PyProof.TupleCall
import PyProof.P3In
import KE.KDictLaws
import PyProof.Rows.SetFrom
import KE.KRevSl
import KE.KIntText
import KE.KLcPair
import KE.KIsAll
import PyProof.ExcArgsOwn
import PyProof.ExcAttrAll.ValueError
import PyProof.NsDelKeeps
import PyProof.Rows.CountFlat
import KE.RegKIsAll
import PySem.Challenge.RW_mailroom_k24_there_or_not
noncomputable section
set_option Elab.async false
set_option linter.all false
set_option maxRecDepth 100000
namespace L2
open PySem PySem.Spec PyProof.Rows
/- a key: an int or a str -/
noncomputable abbrev Key := Sum Int Str
noncomputable def keyIs : Key → Value → Bool
  | .inl k, v => Value.isInt k v
  | .inr x, v => Value.isStrOf x v
noncomputable def keyH (w : World) : Key → Int
  | .inl k => hashInt k
  | .inr x => hashStr w x
theorem keyIs_shape : ∀ {k : Key} {v : Value}, keyIs k v = true → (∃ i t, k = Sum.inl i ∧ v = Value.int i t) ∨ (∃ x t, k = Sum.inr x ∧ v = Value.str x t)
  | .inl i, v, h => by
    obtain ⟨t, e⟩ := Value.isInt_shape (k := i) (v := v) h
    exact .inl ⟨i, t, rfl, e⟩
  | .inr x, v, h => by
    obtain ⟨t, e⟩ := Value.isStrOf_shape (x := x) (v := v) h
    exact .inr ⟨x, t, rfl, e⟩
theorem keyIs_int (i : Int) (t : Tok) : keyIs (.inl i) (.int i t) = true := by simp [keyIs, Value.isInt]
theorem keyIs_str (x : Str) (t : Tok) : keyIs (.inr x) (.str x t) = true := by simp [keyIs, Value.isStrOf]
theorem key_ll (a b : Int) : decide ((Sum.inl a : Key) = Sum.inl b) = (a == b) := by
  by_cases e : a = b
  · subst e; simp
  · have h : ¬ (Sum.inl a : Key) = Sum.inl b := fun q => e (Sum.inl.inj q)
    rw [decide_eq_false h]
    exact (beq_eq_false_iff_ne.mpr e).symm
theorem key_rr (a b : Str) : decide ((Sum.inr a : Key) = Sum.inr b) = decide (a = b) := by
  by_cases e : a = b
  · subst e; simp
  · have h : ¬ (Sum.inr a : Key) = Sum.inr b := fun q => e (Sum.inr.inj q)
    rw [decide_eq_false h, decide_eq_false e]
theorem key_lr (a : Int) (b : Str) : decide ((Sum.inl a : Key) = Sum.inr b) = false := decide_eq_false (fun q => nomatch q)
theorem key_rl (a : Str) (b : Int) : decide ((Sum.inr a : Key) = Sum.inl b) = false := decide_eq_false (fun q => nomatch q)
noncomputable def mixKind (prog : Program) (w : World) : PySem.KeyKind prog w Key where
  is := keyIs
  hash := keyH w
  inj := fun v a b ha hb => by
    rcases keyIs_shape ha with ⟨i, t, rfl, rfl⟩ | ⟨x, t, rfl, rfl⟩
    · rcases keyIs_shape hb with ⟨j, u, rfl, e⟩ | ⟨y, u, rfl, e⟩
      · injection e with e1 _; rw [e1]
      · exact nomatch e
    · rcases keyIs_shape hb with ⟨j, u, rfl, e⟩ | ⟨y, u, rfl, e⟩
      · exact nomatch e
      · injection e with e1 _; rw [e1]
  byValue := fun k v h => by
    rcases keyIs_shape h with ⟨i, t, rfl, rfl⟩ | ⟨x, t, rfl, rfl⟩ <;> rfl
  pyHash := fun hv h => by
    rcases keyIs_shape hv with ⟨i, t, rfl, rfl⟩ | ⟨x, t, rfl, rfl⟩
    · exact wpAny_pyHash_int h
    · exact wpAny_pyHash_str h
  eqBool := fun hu hv h => by
    rcases keyIs_shape hu with ⟨i, t, rfl, rfl⟩ | ⟨x, t, rfl, rfl⟩
    · rcases keyIs_shape hv with ⟨j, u, rfl, rfl⟩ | ⟨y, u, rfl, rfl⟩
      · rw [key_ll] at h; exact wpAny_eqBool_int h
      · rw [key_lr] at h; exact SeqAt.EqAt.int_str i t y u _ _ _ _ h
    · rcases keyIs_shape hv with ⟨j, u, rfl, rfl⟩ | ⟨y, u, rfl, rfl⟩
      · rw [key_rl] at h; exact SeqAt.EqAt.str_int x t j u _ _ _ _ h
      · rw [key_rr] at h; exact wpAny_eqBool_str h
  «strs» := fun k x t v h => by
    rcases keyIs_shape h with ⟨i, u, rfl, e⟩ | ⟨y, u, rfl, e⟩
    · exact nomatch e
    · injection e with e1 _
      subst e1
      cases v <;> rfl
theorem mixKind_int (prog : Program) (w : World) (i : Int) (t : Tok) : (mixKind prog w).is (.inl i) (.int i t) = true := keyIs_int i t
theorem mixKind_str (prog : Program) (w : World) (x : Str) (t : Tok) : (mixKind prog w).is (.inr x) (.str x t) = true := keyIs_str x t
end L2
namespace L2
open PySem PySem.Spec PyProof.Rows
/- a value, without the heap -/
inductive V where
  | non | bl (b : Bool) | int (i : Int) | str (x : Str) | byt (b : Array UInt8) | flt (b : UInt64) | ref (a : Addr) | ty (n : String)
  deriving DecidableEq
noncomputable def RelV : V → Value → Prop
  | .non, u => u = Value.none
  | .bl b, u => u = Value.bool b
  | .int i, u => ∃ t, u = Value.int i t
  | .str x, u => ∃ t, u = Value.str x t
  | .byt b, u => ∃ t, u = Value.bytes b t
  | .flt b, u => ∃ t, u = Value.float b t
  | .ref a, u => u = Value.ref a
  | .ty n, u => u = Value.type n
noncomputable abbrev Vals : List V → List Value → Prop := Paired RelV
theorem Vals.length {xs : List V} {us : List Value} (r : Vals xs us) : xs.length = us.length := Paired.length r
theorem Vals.get {xs : List V} {us : List Value} {i : Nat} {x : V} (h : Vals xs us) (e : xs[i]? = some x) : ∃ u, us[i]? = some u ∧ RelV x u := by
  induction h generalizing i with
  | nil => rw [List.getElem?_nil] at e; exact nomatch e
  | cons r t ih =>
    cases i with
    | zero => cases e; exact ⟨_, rfl, r⟩
    | succ i => exact ih e
theorem Vals.set {x : V} {u : Value} (r : RelV x u) {xs : List V} {us : List Value} (i : Nat) (h : Vals xs us) : Vals (xs.set i x) (us.set i u) := by
  induction h generalizing i with
  | nil => exact .nil
  | cons q t ih =>
    cases i with
    | zero => exact .cons r t
    | succ i => exact .cons q (ih i)
theorem Vals.append {xs ys : List V} {us ws : List Value} (h : Vals xs us) (s : Vals ys ws) : Vals (xs ++ ys) (us ++ ws) := by
  induction h with
  | nil => exact s
  | cons r t ih => exact .cons r ih
noncomputable def RelO : Option V → Option Value → Prop
  | some v, some u => RelV v u
  | none, none => True
  | _, _ => False
noncomputable def KV {κ : Type} : List (κ × V) → List (κ × Value) → Prop := Paired fun (p : κ × V) (q : κ × Value) => p.1 = q.1 ∧ RelV p.2 q.2
/- a key of a dict (00_mix): an int or a text -/
noncomputable def kV : Key → V
  | .inl i => .int i
  | .inr x => .str x
/- what stands at a tracked address -/
inductive HO where
  /- a list -/
  | lst (xs : List V)
  /- a tuple (never changes) -/
  | tup (xs : List V)
  /- a dict whose keys are ints and texts; one whose keys are tuples of ints and texts (the empty one is both) -/
  | dK (kvs : List (Key × V)) | dT (kvs : List (List Key × V))
  /- a set of ints: its members, its size -/
  | set (S : Int → Bool) (n : Nat)
  /- an instance of the class at C, its dict at dx, its attributes -/
  | ins (C dx : Addr) (fs : List (Str × V))
  /- the dict of the instance at x -/
  | own (x : Addr)
  /- the dict of an exception -/
  | xd (fs : List (Str × V))
  /- a bound method, f of x -/
  | met (f x : Addr)
  /- a range object lo, lo + 1, .. below hi -/
  | rng (lo hi : Int)
  /- a thing that is known to the object (the script; a dict while a loop walks it): read, never written while it is so -/
  | frz (o : Obj) (u : HO)
  /- a code object's table -/
  | tbl (ps : Array Value)
  /- any other thing, by what is true of its one object (a def of one's own: SetO a S n := HO.ext fun h => ..) -/
  | ext (φ : Heap → Prop)
noncomputable abbrev Hp := Addr → Option HO
noncomputable def upd (H : Hp) (a : Addr) (o : HO) : Hp := fun b => if b = a then some o else H b
theorem upd_same {H : Hp} {a : Addr} {o : HO} : upd H a o a = some o := by unfold upd; rw [if_pos rfl]
theorem upd_ne {H : Hp} {a b : Addr} {o : HO} (h : b ≠ a) : upd H a o b = H b := by unfold upd; rw [if_neg h]
theorem upd_upd {H : Hp} {a : Addr} {o u : HO} : upd (upd H a o) a u = upd H a u := by
  funext b; unfold upd; split <;> rfl
/- two objects of different content stand apart -/
theorem ne_of {H : Hp} {a b : Addr} {o u : HO} (h : H a = some o) (h' : H b = some u) (d : o ≠ u) : a ≠ b := by
  intro e; subst e; rw [h] at h'; exact d (Option.some.inj h')
theorem ne_of_none {H : Hp} {a b : Addr} {o : HO} (h : H a = some o) (h' : H b = none) : a ≠ b := by
  intro e; subst e; rw [h] at h'; cases h'
section
variable (P : Program) (w : World)
noncomputable def ObjOk (H : Hp) (h : Heap) (a : Addr) : HO → Prop
  | .lst xs => xs.length ≤ sizeLine ∧ ∃ (its : List Value) (n : Nat), Vals xs its ∧ h.get? a = some { cls := .type "list", data := .seq its.toArray n }
  | .tup xs => xs.length ≤ sizeLine ∧ ∃ its : List Value, Vals xs its ∧ IsTup h a its.toArray
  | .dK kvs => kvs.length ≤ sizeLine ∧ (a == sysModules) = false ∧ ∃ vs, KV kvs vs ∧ h.DictOf (mixKind P w) a vs
  | .dT kvs => kvs.length ≤ sizeLine ∧ (a == sysModules) = false ∧ ∃ xs : List (List Key × Addr × Value),
      Paired (fun (p : List Key × V) (q : List Key × Addr × Value) => p.1 = q.1 ∧ H q.2.1 = some (.tup (p.1.map kV)) ∧ RelV p.2 q.2.2) kvs xs ∧
      ∃ o es ep, h.get? a = some o ∧ o.ExactDict ∧ o.data = .dict es ep ∧ es.toList = xs.map (entryOfKey (tupleKind (mixKind P w))) ∧ (xs.map (·.1)).Nodup
  | .set S n => h.SetOf (intKind P w) a S n
  | .ins C dx fs => H dx = some (.own a) ∧ fs.length ≤ 1000 ∧ dx ≠ a ∧ h.get? a = some (PySem.W.instObj C dx) ∧
      ∃ mA, h.Ns1 dx mA ∧ (∀ f, RelO (fs.lookup f) (mA f)) ∧ PySem.Within mA (fs.map (·.1))
  | .own _ => ∃ o, h.get? a = some o
  | .xd fs => ∃ mA, h.Ns1 a mA ∧ ∀ f, RelO (fs.lookup f) (mA f)
  | .rng lo hi => ∃ t u v, h.get? a = some { cls := .type "range", data := .fields #[.int lo t, .int hi u, .int 1 v] }
  | .frz o u => h.get? a = some o ∧ ObjOk H h a u
  | .tbl ps => h.get? a = some { cls := .none, data := .fields ps }
  | .met f x => h.get? a = some (PySem.W.methodObj (.ref f) (.ref x))
  | .ext φ => φ h ∧ (∃ o, h.get? a = some o) ∧ ∀ h1 h2 : Heap, φ h1 → (∀ o, h1.get? a = some o → h2.get? a = some o) → φ h2
/- the abstract heap is held -/
noncomputable def HOk (H : Hp) (h : Heap) : Prop := ∀ a o, H a = some o → ObjOk P w H h a o
end
section
variable {P : Program} {w : World} {H H' : Hp} {h h' : Heap} {a : Addr} {o : HO}
theorem ObjOk.lt (x : ObjOk P w H h a o) : a < h.objs.size := by
  cases o with
  | lst xs => obtain ⟨_, _, _, _, e⟩ := x; exact Heap.lt_size e
  | tup xs => obtain ⟨_, _, _, p⟩ := x; exact p.lt
  | dK kvs => obtain ⟨_, _, _, _, o, _, _, e, _⟩ := x; exact Heap.lt_size e
  | dT kvs => obtain ⟨_, _, _, _, o, _, _, e, _⟩ := x; exact Heap.lt_size e
  | set S n => obtain ⟨o, _, _, _, e, _⟩ := x; exact Heap.lt_size e
  | ins C dx fs => obtain ⟨_, _, _, e, _⟩ := x; exact Heap.lt_size e
  | own y => obtain ⟨_, e⟩ := x; exact Heap.lt_size e
  | xd fs => obtain ⟨_, ⟨_, _, _, e, _⟩, _⟩ := x; exact Heap.lt_size e
  | rng lo hi => obtain ⟨_, _, _, e⟩ := x; exact Heap.lt_size e
  | frz ob u => obtain ⟨e, _⟩ := x; exact Heap.lt_size e
  | tbl ps => exact Heap.lt_size (show h.get? a = some _ from x)
  | met f y => exact Heap.lt_size (show h.get? a = some _ from x)
  | ext φ => obtain ⟨_, ⟨_, e⟩, _⟩ := x; exact Heap.lt_size e
theorem Paired.mapP {α β : Type} {F G : α → β → Prop} {l₁ : List α} {l₂ : List β} (h : Paired F l₁ l₂) (f : ∀ a b, F a b → G a b) : Paired G l₁ l₂ := by
  induction h with
  | nil => exact .nil
  | cons r t ih => exact .cons (f _ _ r) ih
/- what an object's description leans on: its own object, its own dict, the tuples -/
theorem ObjOk.stay (x : ObjOk P w H h a o) (k : ∀ b u, (b = a ∨ H b = some (.own a)) → h.get? b = some u → h'.get? b = some u)
    (ho : ∀ b, H b = some (.own a) → H' b = some (.own a)) (ht : ∀ b xs, H b = some (.tup xs) → H' b = some (.tup xs)) : ObjOk P w H' h' a o := by
  induction o with
  | lst xs => obtain ⟨z, its, n, r, e⟩ := x; exact ⟨z, its, n, r, k _ _ (.inl rfl) e⟩
  | tup xs => obtain ⟨z, its, r, ob, e, c⟩ := x; exact ⟨z, its, r, ob, k _ _ (.inl rfl) e, c⟩
  | dK kvs => obtain ⟨z, y, vs, r, ob, es, ep, e, c⟩ := x; exact ⟨z, y, vs, r, ob, es, ep, k _ _ (.inl rfl) e, c⟩
  | dT kvs =>
    obtain ⟨z, y, xs, r, ob, es, ep, e, c⟩ := x
    exact ⟨z, y, xs, Paired.mapP r fun p q z => ⟨z.1, ht _ _ z.2.1, z.2.2⟩, ob, es, ep, k _ _ (.inl rfl) e, c⟩
  | set S n => obtain ⟨ob, es, ep, t, e, c⟩ := x; exact ⟨ob, es, ep, t, k _ _ (.inl rfl) e, c⟩
  | ins C dx fs =>
    obtain ⟨d, z, ne, e, mA, ⟨od, es, ep, e2, c⟩, r⟩ := x
    exact ⟨ho _ d, z, ne, k _ _ (.inl rfl) e, mA, ⟨od, es, ep, k _ _ (.inr d) e2, c⟩, r⟩
  | own y => obtain ⟨ob, e⟩ := x; exact ⟨ob, k _ _ (.inl rfl) e⟩
  | xd fs => obtain ⟨mA, ⟨od, es, ep, e, c⟩, r⟩ := x; exact ⟨mA, ⟨od, es, ep, k _ _ (.inl rfl) e, c⟩, r⟩
  | rng lo hi => obtain ⟨t, u, v, e⟩ := x; exact ⟨t, u, v, k _ _ (.inl rfl) e⟩
  | frz ob u ih => obtain ⟨e, q⟩ := x; exact ⟨k _ _ (.inl rfl) e, ih q⟩
  | tbl ps =>
    have e : h.get? a = some { cls := .none, data := .fields ps } := x
    show h'.get? a = some { cls := .none, data := .fields ps }
    exact k a _ (.inl rfl) e
  | met f y =>
    have e : h.get? a = some (PySem.W.methodObj (.ref f) (.ref y)) := x
    show h'.get? a = some (PySem.W.methodObj (.ref f) (.ref y))
    exact k a _ (.inl rfl) e
  | ext φ => obtain ⟨p, ⟨o, e⟩, st⟩ := x; exact ⟨st _ _ p fun o q => k _ _ (.inl rfl) q, ⟨o, k _ _ (.inl rfl) e⟩, st⟩
theorem HOk.lt (x : HOk P w H h) (e : H a = some o) : a < h.objs.size := (x a o e).lt
theorem HOk.fresh (x : HOk P w H h) (e : h.objs.size ≤ a) : H a = none := by
  cases q : H a with
  | none => rfl
  | some u => exact absurd (Nat.lt_of_lt_of_le (x.lt q) e) (Nat.lt_irrefl _)
/- every object of the heap is kept -/
theorem HOk.kept (x : HOk P w H h) (k : ∀ b u, h.get? b = some u → h'.get? b = some u) : HOk P w H h' := fun a o e =>
  (x a o e).stay (fun b u _ q => k b u q) (fun _ q => q) fun _ _ q => q
/- a new object is laid and tracked -/
theorem HOk.laid (x : HOk P w H h) (k : ∀ b u, h.get? b = some u → h'.get? b = some u) (hp : h.objs.size ≤ a) (new : ObjOk P w (upd H a o) h' a o) : HOk P w (upd H a o) h' := fun b u e => by
  have hn := x.fresh hp
  by_cases hb : b = a
  · subst hb; rw [upd_same] at e; cases e; exact new
  · rw [upd_ne hb] at e
    exact (x b u e).stay (fun c v _ q => k c v q) (fun c q => by rw [upd_ne (ne_of_none q hn)]; exact q) fun c xs q => by rw [upd_ne (ne_of_none q hn)]; exact q
end
/- what may be read as u: it is u, or a known u -/
noncomputable def Rd (H : Hp) (a : Addr) (u : HO) : Prop := H a = some u ∨ ∃ o, H a = some (.frz o u)
theorem Rd.ok {P : Program} {w : World} {H : Hp} {h : Heap} {a : Addr} {u : HO} (r : Rd H a u) (x : HOk P w H h) : ObjOk P w H h a u := by
  rcases r with r | ⟨o, r⟩
  · exact x a u r
  · obtain ⟨_, q⟩ := x a _ r
    exact q
/- what may be written -/
noncomputable def Mut : Option HO → Prop
  | some (.lst _) => True
  | some (.dK _) => True
  | some (.dT _) => True
  | some (.set _ _) => True
  | some (.ins _ _ _) => True
  | some (.ext _) => True
  | _ => False
section
variable {P : Program} {w : World} {H : Hp} {h h' : Heap} {x e : Addr} {o' : HO}
/- the object at e is changed: x itself, or the dict of the instance x -/
theorem HOk.write (ok : HOk P w H h) (mu : Mut (H x)) (he : e = x ∨ H e = some (.own x)) (k : ∀ b u, b ≠ e → h.get? b = some u → h'.get? b = some u) (heo : ∃ u, h'.get? e = some u)
    (new : ObjOk P w (upd H x o') h' x o') : HOk P w (upd H x o') h' := fun b u q => by
  have nown : ∀ c y, H c = some (.own y) → c ≠ x := fun c y r z => by subst z; rw [r] at mu; exact mu
  have ntup : ∀ c xs, H c = some (.tup xs) → c ≠ x := fun c xs r z => by subst z; rw [r] at mu; exact mu
  by_cases hb : b = x
  · subst hb; rw [upd_same] at q; cases q; exact new
  · rw [upd_ne hb] at q
    by_cases hbe : b = e
    · have q' : H b = some (.own x) := by
        rcases he with z | z
        · exact absurd (hbe.trans z) hb
        · rw [hbe]; exact z
      rw [q] at q'; cases q'
      obtain ⟨v, hv⟩ := heo
      exact ⟨v, by rw [hbe]; exact hv⟩
    · refine (ok b u q).stay (fun c v hc r => k c v ?_ r) (fun c r => by rw [upd_ne (nown c b r)]; exact r) fun c xs r => by rw [upd_ne (ntup c xs r)]; exact r
      rcases hc with rfl | hc
      · exact hbe
      · rintro rfl
        rcases he with z | z
        · exact nown c b hc z
        · rw [hc] at z; cases z; exact hb rfl
end
structure Un (fs ex : List Addr) (H H' : Hp) (h h' : Heap) : Prop where
  keep : ∀ b o, h.get? b = some o → H b = none → b ∉ fs → b ∉ ex → h'.get? b = some o
  slot : ∀ b o, h.get? b = some o → H b = none → b ∈ fs → b ∉ ex → ∃ sl, h'.get? b = some { o with slots := sl }
  free : ∀ b o, h.get? b = some o → H b = none → b ∉ ex → H' b = none
  there : ∀ b o, h.get? b = some o → b ∉ ex → ∃ o', h'.get? b = some o'
  tups : ∀ b xs, H b = some (.tup xs) → H' b = some (.tup xs)
  frzs : ∀ b o u, H b = some (.frz o u) → H' b = some (.frz o u)
  tbls : ∀ b ps, H b = some (.tbl ps) → ∃ more, H' b = some (.tbl (ps ++ more))
section
variable {fs fs' ex ex' : List Addr} {H H1 H2 : Hp} {h h1 h2 h' : Heap} {a x e : Addr} {o : HO}
theorem Un.any (u : Un fs ex H H1 h h1) {b : Addr} {ob : Obj} (q : h.get? b = some ob) (n : H b = none) (hx : b ∉ ex) : ∃ sl, h1.get? b = some { ob with slots := sl } := by
  by_cases hb : b ∈ fs
  · exact u.slot b ob q n hb hx
  · exact ⟨ob.slots, u.keep b ob q n hb hx⟩
theorem Un.kept (k : ∀ b u, h.get? b = some u → h'.get? b = some u) : Un fs ex H H h h' :=
  ⟨fun b ob q _ _ _ => k b ob q, fun b ob q _ _ _ => ⟨ob.slots, k b ob q⟩, fun _ _ _ n _ => n, fun b ob q _ => ⟨ob, k b ob q⟩, fun _ _ q => q, fun _ _ _ q => q, fun _ ps q => ⟨#[], by rw [q]; simp⟩⟩
theorem Un.refl : Un fs ex H H h h := Un.kept fun _ _ q => q
theorem Un.laid (k : ∀ b u, h.get? b = some u → h'.get? b = some u) (hp : h.objs.size ≤ a) (hn : H a = none) : Un fs ex H (upd H a o) h h' where
  keep := fun b u q _ _ _ => k b u q
  slot := fun b u q _ _ _ => ⟨u.slots, k b u q⟩
  free := fun b u q n _ => by rw [upd_ne (Nat.ne_of_lt (Nat.lt_of_lt_of_le (Heap.lt_size q) hp))]; exact n
  there := fun b u q _ => ⟨u, k b u q⟩
  tups := fun b xs q => by rw [upd_ne (ne_of_none q hn)]; exact q
  frzs := fun b u xs q => by rw [upd_ne (ne_of_none q hn)]; exact q
  tbls := fun b ps q => ⟨#[], by rw [upd_ne (ne_of_none q hn), q]; simp⟩
theorem Un.write (mu : Mut (H x)) (he : e = x ∨ H e = some (.own x)) (k : ∀ b u, b ≠ e → h.get? b = some u → h'.get? b = some u) (heo : ∃ u, h'.get? e = some u) : Un fs ex H (upd H x o) h h' := by
  have hx : ∀ b, H b = none → b ≠ x := fun b n z => by subst z; rw [n] at mu; exact mu
  have hb : ∀ b, H b = none → b ≠ e := fun b n z => by
    subst z
    rcases he with r | r
    · exact hx b n r
    · rw [n] at r; cases r
  have hm : ∀ b u, H b = some u → ¬ Mut (some u) → b ≠ x := fun b u q nm z => by subst z; rw [q] at mu; exact nm mu
  refine ⟨fun b u q n _ _ => k b u (hb b n) q, fun b u q n _ _ => ⟨u.slots, k b u (hb b n) q⟩, fun b u q n _ => by rw [upd_ne (hx b n)]; exact n, fun b u q _ => ?_,
    fun b xs q => by rw [upd_ne (hm b _ q fun z => z)]; exact q, fun b u xs q => by rw [upd_ne (hm b _ q fun z => z)]; exact q, fun b ps q => ⟨#[], by rw [upd_ne (hm b _ q fun z => z), q]; simp⟩⟩
  by_cases hbe : b = e
  · subst hbe; exact heo
  · exact ⟨u, k b u hbe q⟩
end
noncomputable def trk (h : Heap) (H : Hp) : List Addr := (List.range h.objs.size).filter fun a => (H a).isSome
noncomputable def hidT (h : Heap) (H : Hp) : Heap := PySem.W.hideAll h (trk h H)
theorem hidT_size (h : Heap) (H : Hp) : (hidT h H).objs.size = h.objs.size := PySem.W.hideAll_size _ _
theorem hidT_get {h : Heap} {H : Hp} {b : Addr} {o : Obj} (e : h.get? b = some o) (n : H b = none) : (hidT h H).get? b = some o :=
  PySem.W.hideAll_get _ e fun hm => by
    have q : (H b).isSome = true := (List.mem_filter.mp hm).2
    rw [n] at q; simp at q
theorem of_hidT {h : Heap} {H : Hp} {b : Addr} {o : Obj} (e : (hidT h H).get? b = some o) : h.get? b = some o ∧ H b = none := by
  have e' : h.get? b = some o := PySem.W.of_hideAll (trk h H) e
  refine ⟨e', ?_⟩
  cases q : H b with
  | none => rfl
  | some x =>
    have hm : b ∈ trk h H := List.mem_filter.mpr ⟨List.mem_range.mpr (Heap.lt_size e'), by simp [q]⟩
    have z : (hidT h H).get? b = none := PySem.W.hideAll_none (trk h H) hm
    rw [z] at e; cases e
end L2
namespace L2
open PySem PySem.Spec PyProof.Rows
/- the module's facts, over the base: the heap at the law's entry without what is tracked there -/
structure Mod (K : PySem.W.Frag) (mg : Str → Option Value) (base : Heap) : Prop where
  kin : K.In base
  glob : base.Ns mainGlobals mg
  blt : ∃ mb, base.Ns builtinsNs mb ∧ ∀ x : Str, x ≠ "__name__" → mb x = bootBuiltins x
  nolimit : base.NoLimit
/- the context: a def's body (or a comprehension's block) running. base: fixed through the whole law; s₀, H₀: the entry; outer: the frames whose slots others may change (a def's callers); stack: all frames that run;
   ex: iterators that were made ahead of the entry and are walked here (a comprehension's); fn: the names whose cells were made at the entry (a def: all; a comprehension's block: its own); calm: not within an except suite; pn: pins that every state bears; xe: what is wanted of an exception that leaves the code -/
structure Cx where
  prog : Program
  w : World
  K : PySem.W.Frag
  mg : Str → Option Value
  base : Heap
  A : Around
  N : List Str
  s₀ : Shared
  H₀ : Hp
  env : Env
  outer : List Env
  stack : List Env
  ex : List Addr
  fn : Str → Bool
  calm : Bool
  pn : List (Addr × Obj)
  xe : Value → Shared → Prop
/- the callers' frames -/
noncomputable def frs (l : List Env) : List Addr := l.filterMap (·.frame)
noncomputable abbrev Cx.fs (X : Cx) : List Addr := frs X.outer
noncomputable def Vis (sc : Scope) (x : Str) : Prop := sc.names.lookup x = some .local ∨ sc.names.lookup x = some .cell ∨ sc.names.lookup x = some .free
noncomputable def Loc (sc : Scope) (x : Str) : Prop := sc.names.lookup x = some .local ∨ sc.names.lookup x = some .cell
noncomputable def Look (env : Env) (h : Heap) (m : Str → Option Value) (x : Str) (u : Value) : Prop :=
  (env.kindOf x = some .local ∧ m x = some u) ∨ ((env.kindOf x = some .cell ∨ env.kindOf x = some .free) ∧ ∃ c, env.cells.lookup x = some c ∧ h.IsCell c (some u))
structure Cx.Ok (X : Cx) : Prop where
  mod : Mod X.K X.mg X.base
  kind : X.env.scope.kind = .function
  glob : X.env.globals = mainGlobals
  blt : X.env.builtins = builtinsNs
  above : X.s₀.heap.objs.size ≤ X.env.locals
  inj : ∀ x y c, X.env.cells.lookup x = some c → X.env.cells.lookup y = some c → x = y
  has : ∀ x, (X.env.kindOf x = some .cell ∨ X.env.kindOf x = some .free) → ∃ c, X.env.cells.lookup x = some c
  cab : ∀ x c, X.fn x = true → X.env.cells.lookup x = some c → X.s₀.heap.objs.size ≤ c
  hd : X.calm = true → X.A.handled = none
  frames : X.A.frames = some X.stack
  stk : X.stack = X.outer ∨ (X.stack = X.env :: X.outer ∧ X.env.frame = some X.env.locals)
  exf : ∀ b ∈ X.ex, b ≠ X.env.locals ∧ ∀ x c, X.env.cells.lookup x = some c → c ≠ b
  bs : ∀ b o, X.base.get? b = some o → X.s₀.heap.get? b = some o ∧ X.H₀ b = none
  bsz : X.base.objs.size ≤ X.s₀.heap.objs.size
  noex : ∀ b o, X.base.get? b = some o → b ∉ X.ex
  exfs : ∀ b ∈ X.ex, b ∉ X.fs
  funs : X.s₀.heap.FunFrames X.base X.outer
  frf : ∀ b ∈ X.fs, X.H₀ b = none
structure Inv (X : Cx) (pins : List (Addr × Obj)) (σ : List (Option V)) (H : Hp) (s : Shared) : Prop where
  ok : X.Ok
  os : s.os = X.s₀.os
  bare : AllBare s.gens
  base : Un X.fs X.ex X.H₀ H X.s₀.heap s.heap
  loc : ∃ m, s.heap.Ns X.env.locals m ∧ ∀ (i : Nat) (x : Str) (v : V), X.N[i]? = some x → σ[i]? = some (some v) → Vis X.env.scope x → ∃ u, RelV v u ∧ Look X.env s.heap m x u
  cell : ∀ x c, X.env.cells.lookup x = some c → ∃ v, s.heap.IsCell c v
  free : H X.env.locals = none
  freeC : ∀ x c, X.env.cells.lookup x = some c → H c = none
  pin : ∀ p ∈ X.pn ++ pins, s.heap.get? p.1 = some p.2 ∧ H p.1 = none ∧ p.1 ≠ X.env.locals ∧ p.1 ∉ X.fs ∧ ∀ v, p.2.data ≠ .cell v
  hok : HOk X.prog X.w H s.heap
  len : σ.length = X.N.length
section
variable {X : Cx} {pins : List (Addr × Obj)} {σ : List (Option V)} {H H' : Hp} {s : Shared} {h' : Heap}
theorem Cx.Ok.nofr (ok : X.Ok) {b : Addr} {o : Obj} (e : X.base.get? b = some o) : b ∉ X.fs := fun hb => by
  have := (ok.funs.mem hb).1
  rw [e] at this; cases this
theorem Inv.bs (I : Inv X pins σ H s) : ∀ b o, X.base.get? b = some o → s.heap.get? b = some o ∧ H b = none := fun b o e =>
  ⟨I.base.keep b o (I.ok.bs b o e).1 (I.ok.bs b o e).2 (I.ok.nofr e) (I.ok.noex b o e), I.base.free b o (I.ok.bs b o e).1 (I.ok.bs b o e).2 (I.ok.noex b o e)⟩
theorem Inv.bk (I : Inv X pins σ H s) : ∀ b o, X.base.get? b = some o → s.heap.get? b = some o := fun b o e => (I.bs b o e).1
theorem Inv.mod (I : Inv X pins σ H s) : Mod X.K X.mg X.base := I.ok.mod
theorem Inv.kIn (I : Inv X pins σ H s) : X.K.In s.heap := I.ok.mod.kin.keeps I.bk
theorem Inv.lt (I : Inv X pins σ H s) : X.env.locals < s.heap.objs.size := let ⟨_, hn, _⟩ := I.loc; hn.lt
theorem Inv.sz (I : Inv X pins σ H s) : X.s₀.heap.objs.size ≤ s.heap.objs.size := Nat.le_trans I.ok.above (Nat.le_of_lt I.lt)
theorem Inv.nofs (I : Inv X pins σ H s) {a : Addr} (h : s.heap.objs.size ≤ a) : a ∉ X.fs := fun hb => by
  obtain ⟨_, o, ho, _⟩ := I.ok.funs.mem hb
  exact absurd (Nat.lt_of_lt_of_le (Heap.lt_size ho) (Nat.le_trans I.sz h)) (Nat.lt_irrefl _)
theorem Inv.cne (I : Inv X pins σ H s) : ∀ x c, X.env.cells.lookup x = some c → c ≠ X.env.locals := fun x c e z => by
  obtain ⟨v, o, ho, hd⟩ := I.cell x c e
  obtain ⟨m, ⟨o', es, ep, ho', hd', _⟩, _⟩ := I.loc
  rw [z, ho'] at ho; cases ho; rw [hd'] at hd; cases hd
theorem Inv.funs (I : Inv X pins σ H s) : s.heap.FunFrames X.base X.outer := by
  have all : ∀ (l : List Env), (∀ b ∈ frs l, b ∈ X.fs) → X.s₀.heap.FunFrames X.base l → s.heap.FunFrames X.base l := by
    intro l
    induction l with
    | nil => intro _ _; trivial
    | cons env r ih =>
      intro hs hl
      obtain ⟨hk, ⟨L, o, hf, hn, ho, hd⟩, hr⟩ := hl
      have hL : L ∈ X.fs := hs L (by unfold frs; rw [List.filterMap_cons, hf]; exact List.mem_cons_self)
      obtain ⟨sl, e⟩ := I.base.slot L o ho (I.ok.frf L hL) hL fun z => I.ok.exfs L z hL
      exact ⟨hk, ⟨L, _, hf, hn, e, hd⟩, ih (fun b hb => hs b (by unfold frs; rw [List.filterMap_cons, hf]; exact List.mem_cons_of_mem _ hb)) hr⟩
  exact all X.outer (fun _ hb => hb) I.ok.funs
/- the frames that run, for a call -/
theorem Inv.stack (I : Inv X pins σ H s) : s.heap.FunFrames X.base X.stack := by
  rcases I.ok.stk with e | ⟨e, hf⟩
  · rw [e]; exact I.funs
  · rw [e]
    obtain ⟨m, hn, _⟩ := I.loc
    refine .cons (by rw [I.ok.kind]; decide) hf hn ?_ I.funs
    exact Heap.get?_none_of_le (Nat.le_trans I.ok.bsz I.ok.above)
theorem Inv.stkSub (I : Inv X pins σ H s) : ∀ b ∈ frs X.stack, b ∈ X.env.locals :: X.fs := fun b hb => by
  rcases I.ok.stk with e | ⟨e, hf⟩
  · rw [e] at hb; exact List.mem_cons_of_mem _ hb
  · rw [e] at hb
    unfold frs at hb
    rw [List.filterMap_cons, hf] at hb
    exact hb
theorem Inv.stkFree (I : Inv X pins σ H s) : ∀ b ∈ frs X.stack, H b = none := fun b hb => by
  rcases List.mem_cons.mp (I.stkSub b hb) with e | hb
  · rw [e]; exact I.free
  · obtain ⟨_, o, ho, _⟩ := I.ok.funs.mem hb
    exact I.base.free b o ho (I.ok.frf b hb) fun z => I.ok.exfs b z hb
/- THE STEP: the untracked objects but the frame and the records at ch are kept (the callers' frames up to slots), the frame's map is kept, the new abstract heap is held -/
theorem Inv.step {g' : Array GenState} {t' : Nat} {d' : Drawn} {ch : List Addr} (I : Inv X pins σ H s)
    (hch : ∀ b ∈ ch, (b ∈ X.ex ∨ X.s₀.heap.objs.size ≤ b) ∧ b ≠ X.env.locals ∧ (∀ x c, X.env.cells.lookup x = some c → c ≠ b) ∧ ∀ p ∈ X.pn ++ pins, p.1 ≠ b)
    (keep : ∀ b o, b ≠ X.env.locals → b ∉ X.fs → b ∉ ch → s.heap.get? b = some o → H b = none → h'.get? b = some o)
    (slot : ∀ b o, b ≠ X.env.locals → b ∈ X.fs → b ∉ ch → s.heap.get? b = some o → H b = none → ∃ sl, h'.get? b = some { o with slots := sl }) (free : ∀ b o, b ∉ ch → s.heap.get? b = some o → H b = none → H' b = none)
    (there : ∀ b o, b ∉ ch → s.heap.get? b = some o → ∃ o', h'.get? b = some o')
    (tups : ∀ b xs, H b = some (.tup xs) → H' b = some (.tup xs)) (frzs : ∀ b o u, H b = some (.frz o u) → H' b = some (.frz o u)) (tbls : ∀ b ps, H b = some (.tbl ps) → ∃ more, H' b = some (.tbl (ps ++ more)))
    (ns : ∀ m, s.heap.Ns X.env.locals m → h'.Ns X.env.locals m) (hok : HOk X.prog X.w H' h') (hg : AllBare g') :
    Inv X pins σ H' { s with heap := h', gens := g', drawn := d', toks := t' } := by
  have neL : ∀ b o, X.s₀.heap.get? b = some o → b ≠ X.env.locals := fun b o e => Nat.ne_of_lt (Nat.lt_of_lt_of_le (Heap.lt_size e) I.ok.above)
  have neC : ∀ b o, X.s₀.heap.get? b = some o → b ∉ X.ex → b ∉ ch := fun b o e hx hb => by
    rcases (hch b hb).1 with z | z
    · exact hx z
    · exact absurd (Nat.lt_of_lt_of_le (Heap.lt_size e) z) (Nat.lt_irrefl _)
  have cellK : ∀ x c, X.env.cells.lookup x = some c → ∀ v, s.heap.IsCell c v → h'.IsCell c v := fun x c e v ⟨o, ho, hd⟩ => by
    have nch : c ∉ ch := fun z => (hch c z).2.2.1 x c e rfl
    by_cases hc : c ∈ X.fs
    · obtain ⟨sl, q⟩ := slot c o (I.cne x c e) hc nch ho (I.freeC x c e)
      exact ⟨_, q, hd⟩
    · exact ⟨o, keep c o (I.cne x c e) hc nch ho (I.freeC x c e), hd⟩
  refine ⟨I.ok, I.os, hg, ⟨fun b o e n hb hx => ?_, fun b o e n hb hx => ?_, fun b o e n hx => ?_, fun b o e hx => ?_, fun b xs e => tups b xs (I.base.tups b xs e), fun b o xs e => frzs b o xs (I.base.frzs b o xs e), fun b ps e => ?_⟩, ?_, fun x c e => ?_, ?_, fun x c e => ?_, fun p hp => ?_, hok, I.len⟩
  · exact keep b o (neL b o e) hb (neC b o e hx) (I.base.keep b o e n hb hx) (I.base.free b o e n hx)
  · obtain ⟨sl, e1⟩ := I.base.slot b o e n hb hx
    obtain ⟨sl', e2⟩ := slot b _ (neL b o e) hb (neC b o e hx) e1 (I.base.free b o e n hx)
    exact ⟨sl', e2⟩
  · obtain ⟨o', e1⟩ := I.base.there b o e hx
    exact free b o' (neC b o e hx) e1 (I.base.free b o e n hx)
  · obtain ⟨o', e1⟩ := I.base.there b o e hx
    exact there b o' (neC b o e hx) e1
  · obtain ⟨m1, e1⟩ := I.base.tbls b ps e
    obtain ⟨m2, e2⟩ := tbls b _ e1
    exact ⟨m1 ++ m2, by rw [e2, Array.append_assoc]⟩
  · obtain ⟨m, hn, hl⟩ := I.loc
    refine ⟨m, ns m hn, fun i x v e1 e2 e3 => ?_⟩
    obtain ⟨u, r, l⟩ := hl i x v e1 e2 e3
    refine ⟨u, r, ?_⟩
    rcases l with l | ⟨k, c, e, z⟩
    · exact .inl l
    · exact .inr ⟨k, c, e, cellK x c e _ z⟩
  · obtain ⟨v, z⟩ := I.cell x c e
    exact ⟨v, cellK x c e v z⟩
  · obtain ⟨m, ⟨o, _, _, ho, _⟩, _⟩ := I.loc
    exact free _ o (fun z => (hch _ z).2.1 rfl) ho I.free
  · obtain ⟨v, o, ho, hd⟩ := I.cell x c e
    exact free c o (fun z => (hch c z).2.2.1 x c e rfl) ho (I.freeC x c e)
  · obtain ⟨e, n, ne, nf, d⟩ := I.pin p hp
    have nch : p.1 ∉ ch := fun z => (hch p.1 z).2.2.2 p hp rfl
    exact ⟨keep p.1 p.2 ne nf nch e n, free p.1 p.2 nch e n, ne, nf, d⟩
/- .. where the frame's own object is kept too -/
theorem Inv.un {t' : Nat} (I : Inv X pins σ H s) (u : Un X.fs [] H H' s.heap h') (hok : HOk X.prog X.w H' h') : Inv X pins σ H' { s with heap := h', toks := t' } := by
  obtain ⟨m, ⟨o, es, ep, ho, r⟩, _⟩ := id I.loc
  obtain ⟨sl, hL⟩ := u.any ho I.free (by simp)
  exact I.step (g' := s.gens) (d' := s.drawn) (ch := []) (fun _ z => nomatch z) (fun b o _ hb _ e n => u.keep b o e n hb (by simp)) (fun b o _ hb _ e n => u.slot b o e n hb (by simp)) (fun b o _ e n => u.free b o e n (by simp)) (fun b o _ e => u.there b o e (by simp)) u.tups u.frzs u.tbls (fun m' hm => by
    obtain ⟨o', es', ep', ho', r'⟩ := hm
    rw [ho] at ho'; cases ho'
    exact ⟨_, es', ep', hL, r'⟩) hok I.bare
/- behind a call (or a comprehension's block): the slots of this frame may have changed too, the records at ch may have turned -/
theorem Inv.call {g' : Array GenState} {t' : Nat} {d' : Drawn} {ch : List Addr} (I : Inv X pins σ H s) (u : Un (frs X.stack) ch H H' s.heap h') (hok : HOk X.prog X.w H' h') (hg : AllBare g')
    (hch : ∀ b ∈ ch, (b ∈ X.ex ∨ X.s₀.heap.objs.size ≤ b) ∧ b ≠ X.env.locals ∧ (∀ x c, X.env.cells.lookup x = some c → c ≠ b) ∧ ∀ p ∈ X.pn ++ pins, p.1 ≠ b) :
    Inv X pins σ H' { s with heap := h', gens := g', drawn := d', toks := t' } := by
  obtain ⟨m, ⟨o, es, ep, ho, r⟩, _⟩ := id I.loc
  obtain ⟨sl, hL⟩ := u.any ho I.free fun z => (hch _ z).2.1 rfl
  exact I.step (ch := ch) hch (fun b o hL hb hc e n => u.keep b o e n (fun z => (List.mem_cons.mp (I.stkSub b z)).elim hL hb) hc) (fun b o _ _ hc e n => u.any e n hc) (fun b o hc e n => u.free b o e n hc) (fun b o hc e => u.there b o e hc) u.tups u.frzs u.tbls (fun m' hm => by
    obtain ⟨o', es', ep', ho', r'⟩ := hm
    rw [ho] at ho'; cases ho'
    exact ⟨_, es', ep', hL, r'⟩) hok hg
/- an untracked record of ours (an iterator) has turned -/
theorem Inv.turned {t' : Nat} {it : Addr} (I : Inv X pins σ H s) (k : ∀ b o, b ≠ it → s.heap.get? b = some o → h'.get? b = some o) (hn : H it = none) (hL : it ≠ X.env.locals)
    (h1 : it ∈ X.ex ∨ X.s₀.heap.objs.size ≤ it) (h2 : ∀ x c, X.env.cells.lookup x = some c → c ≠ it) (h3 : ∀ p ∈ X.pn ++ pins, p.1 ≠ it) : Inv X pins σ H { s with heap := h', toks := t' } := by
  have nit : ∀ b u, H b = some u → b ≠ it := fun b u e z => by rw [z, hn] at e; cases e
  refine I.step (g' := s.gens) (d' := s.drawn) (ch := [it]) (fun b hb => ?_) (fun b o _ _ hc e _ => k b o (fun z => hc (by simp [z])) e) (fun b o _ _ hc e _ => ⟨o.slots, k b o (fun z => hc (by simp [z])) e⟩) (fun _ _ _ _ n => n)
    (fun b o hc e => ⟨o, k b o (fun z => hc (by simp [z])) e⟩) (fun _ _ e => e) (fun _ _ _ e => e) (fun b ps e => ⟨#[], by rw [e]; simp⟩) (fun m hm => ?_) (fun b u e => ?_) I.bare
  · have e : b = it := by simpa using hb
    subst e
    exact ⟨h1, hL, h2, h3⟩
  · obtain ⟨o, es, ep, ho, r⟩ := hm
    exact ⟨o, es, ep, k _ o (Ne.symm hL) ho, r⟩
  · refine (I.hok b u e).stay (fun c v hc q => k c v ?_ q) (fun _ q => q) fun _ _ q => q
    rcases hc with z | z
    · rw [z]; exact nit b u e
    · exact nit c _ z
theorem Inv.tok (I : Inv X pins σ H s) (t : Nat) : Inv X pins σ H { s with toks := t } := I.un (h' := s.heap) (t' := t) Un.refl I.hok
/- all objects kept -/
theorem Inv.kept {t' : Nat} (I : Inv X pins σ H s) (k : ∀ b u, s.heap.get? b = some u → h'.get? b = some u) : Inv X pins σ H { s with heap := h', toks := t' } := I.un (Un.kept k) (I.hok.kept k)
/- a new object laid and tracked -/
theorem Inv.laid {a : Addr} {o : HO} {t' : Nat} (I : Inv X pins σ H s) (k : ∀ b u, s.heap.get? b = some u → h'.get? b = some u) (hp : s.heap.objs.size ≤ a) (new : ObjOk X.prog X.w (upd H a o) h' a o) :
    Inv X pins σ (upd H a o) { s with heap := h', toks := t' } := I.un (Un.laid k hp (I.hok.fresh hp)) (I.hok.laid k hp new)
/- an object written -/
theorem Inv.write {x e : Addr} {o : HO} {t' : Nat} (I : Inv X pins σ H s) (mu : Mut (H x)) (he : e = x ∨ H e = some (.own x)) (k : ∀ b u, b ≠ e → s.heap.get? b = some u → h'.get? b = some u) (heo : ∃ u, h'.get? e = some u)
    (new : ObjOk X.prog X.w (upd H x o) h' x o) : Inv X pins σ (upd H x o) { s with heap := h', toks := t' } := I.un (Un.write mu he k heo) (I.hok.write mu he k heo new)
theorem Inv.pins_of {pins' : List (Addr × Obj)} (I : Inv X pins σ H s) (h : ∀ p ∈ pins', s.heap.get? p.1 = some p.2 ∧ H p.1 = none ∧ p.1 ≠ X.env.locals ∧ p.1 ∉ X.fs ∧ ∀ v, p.2.data ≠ .cell v) : Inv X pins' σ H s :=
  ⟨I.ok, I.os, I.bare, I.base, I.loc, I.cell, I.free, I.freeC, fun p hp => (List.mem_append.mp hp).elim (fun z => I.pin p (List.mem_append_left _ z)) (h p), I.hok, I.len⟩
theorem nodup_ix {N : List Str} (hN : N.Nodup) {i j : Nat} {x : Str} (a : N[i]? = some x) (b : N[j]? = some x) : i = j := by
  obtain ⟨h1, e1⟩ := List.getElem?_eq_some_iff.mp a
  obtain ⟨h2, e2⟩ := List.getElem?_eq_some_iff.mp b
  exact (List.getElem_inj hN).mp (e1.trans e2.symm)
/- a name is stored; what changed -/
theorem store_ok2 {M : Model} {A : Around} {E : Value → Shared → Prop} {i : Nat} {x : Str} {v : V} {u : Value} {Q : Unit → Shared → Prop} (I : Inv X pins σ H s) (hN : X.N.Nodup) (hi : X.N[i]? = some x) (hx : Loc X.env.scope x) (r : RelV v u)
    (h : ∀ s', Inv X pins (σ.set i (some v)) H s' → (∃ a, Heap.SameBut a s.heap s'.heap ∧ (a = X.env.locals ∨ X.env.cells.lookup x = some a)) → Q () s') (hf : X.fn x = true ∨ X.env.scope.names.lookup x = some .local := by first | exact .inl rfl | exact .inr rfl | assumption) : wpAny M A (storeName X.env x u) Q E s := by
  obtain ⟨m, hn, hl⟩ := id I.loc
  have hcls : (X.env.scope.kind == .class || (X.env.scope.kind == .module && X.env.locals != X.env.globals)) = false := by rw [I.ok.kind]; rfl
  have hiσ : i < σ.length := by rw [I.len]; exact (List.getElem?_eq_some_iff.mp hi).1
  have cne := I.cne
  have tracked : ∀ {a : Addr} {h' : Heap}, (∃ o, s.heap.get? a = some o ∧ H a = none) → Heap.SameBut a s.heap h' → HOk X.prog X.w H h' := fun {a h'} ha hs b ob e => by
    obtain ⟨_, _, hfree⟩ := ha
    refine (I.hok b ob e).stay (fun c w' hc q => (hs.2 c ?_).trans q) (fun _ q => q) fun _ _ q => q
    rintro rfl
    rcases hc with rfl | hc
    · rw [hfree] at e; cases e
    · rw [hfree] at hc; cases hc
  rcases hx with hk | hk
  · refine wpAny_storeName_local hk hn (fun h' hn' hs => ?_) hcls
    obtain ⟨oL, _, _, hoL, _⟩ := id hn
    refine h _ ⟨I.ok, I.os, I.bare, ⟨fun b o e n hb hx => ?_, fun b o e n hb hx => ?_, I.base.free, fun b o e hx => ?_, I.base.tups, I.base.frzs, I.base.tbls⟩, ⟨_, hn', fun j y v' e1 e2 e3 => ?_⟩, fun y c e => ?_, I.free, I.freeC, fun p hp => ?_, tracked ⟨oL, hoL, I.free⟩ hs, by simpa using I.len⟩ ⟨_, hs, .inl rfl⟩
    · exact (hs.2 b (Nat.ne_of_lt (Nat.lt_of_lt_of_le (Heap.lt_size e) I.ok.above))).trans (I.base.keep b o e n hb hx)
    · obtain ⟨sl, e1⟩ := I.base.slot b o e n hb hx
      exact ⟨sl, (hs.2 b (Nat.ne_of_lt (Nat.lt_of_lt_of_le (Heap.lt_size e) I.ok.above))).trans e1⟩
    · obtain ⟨o', e1⟩ := I.base.there b o e hx
      exact ⟨o', (hs.2 b (Nat.ne_of_lt (Nat.lt_of_lt_of_le (Heap.lt_size e) I.ok.above))).trans e1⟩
    · by_cases hj : j = i
      · subst hj
        rw [hi] at e1; cases e1
        rw [List.getElem?_set_self hiσ] at e2
        cases e2
        exact ⟨u, r, .inl ⟨hk, by simp⟩⟩
      · rw [List.getElem?_set_ne (Ne.symm hj)] at e2
        obtain ⟨u', r', q⟩ := hl j y v' e1 e2 e3
        refine ⟨u', r', ?_⟩
        rcases q with ⟨k, e⟩ | ⟨k, c, e, z⟩
        · refine .inl ⟨k, ?_⟩
          have : y ≠ x := fun e => hj (nodup_ix hN e1 (e ▸ hi))
          simp [this, e]
        · exact .inr ⟨k, c, e, z.sameBut hs (cne y c e)⟩
    · obtain ⟨w', z⟩ := I.cell y c e
      exact ⟨w', z.sameBut hs (cne y c e)⟩
    · obtain ⟨e, n, ne, nf, d⟩ := I.pin p hp
      exact ⟨(hs.2 p.1 ne).trans e, n, ne, nf, d⟩
  · have hfn : X.fn x = true := by
      rcases hf with z | z
      · exact z
      · rw [z] at hk; cases hk
    obtain ⟨c, hc⟩ := I.ok.has x (.inl hk)
    obtain ⟨w', z⟩ := I.cell x c hc
    refine wpAny_storeName_cell I.ok.kind hk hc z (fun h' hc' hs => ?_)
    obtain ⟨oc, hoc, hocd⟩ := id z
    refine h { s with heap := h' } ⟨I.ok, I.os, I.bare, ⟨fun b o e n hb hx => ?_, fun b o e n hb hx => ?_, I.base.free, fun b o e hx => ?_, I.base.tups, I.base.frzs, I.base.tbls⟩, ⟨m, hn.sameBut hs (Ne.symm (cne x c hc)), fun j y v' e1 e2 e3 => ?_⟩, fun y c' e => ?_, I.free, I.freeC, fun p hp => ?_, tracked ⟨oc, hoc, I.freeC x c hc⟩ hs, by simpa using I.len⟩ ⟨c, hs, .inr hc⟩
    · exact (hs.2 b (Nat.ne_of_lt (Nat.lt_of_lt_of_le (Heap.lt_size e) (I.ok.cab x c hfn hc)))).trans (I.base.keep b o e n hb hx)
    · obtain ⟨sl, e1⟩ := I.base.slot b o e n hb hx
      exact ⟨sl, (hs.2 b (Nat.ne_of_lt (Nat.lt_of_lt_of_le (Heap.lt_size e) (I.ok.cab x c hfn hc)))).trans e1⟩
    · obtain ⟨o', e1⟩ := I.base.there b o e hx
      exact ⟨o', (hs.2 b (Nat.ne_of_lt (Nat.lt_of_lt_of_le (Heap.lt_size e) (I.ok.cab x c hfn hc)))).trans e1⟩
    · by_cases hj : j = i
      · subst hj
        rw [hi] at e1; cases e1
        rw [List.getElem?_set_self hiσ] at e2
        cases e2
        exact ⟨u, r, .inr ⟨.inl hk, c, hc, hc'⟩⟩
      · rw [List.getElem?_set_ne (Ne.symm hj)] at e2
        obtain ⟨u', r', q⟩ := hl j y v' e1 e2 e3
        refine ⟨u', r', ?_⟩
        rcases q with q | ⟨k, c', e, z'⟩
        · exact .inl q
        · refine .inr ⟨k, c', e, z'.sameBut hs ?_⟩
          rintro rfl
          exact hj (nodup_ix hN e1 (I.ok.inj _ _ _ e hc ▸ hi))
    · by_cases hcc : c' = c
      · subst hcc; exact ⟨_, hc'⟩
      · obtain ⟨w2, z2⟩ := I.cell y c' e
        exact ⟨w2, z2.sameBut hs hcc⟩
    · obtain ⟨e, n, ne, nf, d⟩ := I.pin p hp
      refine ⟨(hs.2 p.1 ?_).trans e, n, ne, nf, d⟩
      intro q
      rw [q, hoc] at e
      have q' : oc = p.2 := Option.some.inj e
      exact d w' (by rw [← q']; exact hocd)
theorem store_ok {M : Model} {A : Around} {E : Value → Shared → Prop} {i : Nat} {x : Str} {v : V} {u : Value} {Q : Unit → Shared → Prop} (I : Inv X pins σ H s) (hN : X.N.Nodup) (hi : X.N[i]? = some x) (hx : Loc X.env.scope x) (r : RelV v u)
    (h : ∀ s', Inv X pins (σ.set i (some v)) H s' → Q () s') (hf : X.fn x = true ∨ X.env.scope.names.lookup x = some .local := by first | exact .inl rfl | exact .inr rfl | assumption) : wpAny M A (storeName X.env x u) Q E s :=
  store_ok2 I hN hi hx r (fun s' I' _ => h s' I') hf
/- behind a call or a block, the state as it is -/
theorem Inv.call' {s' : Shared} {ch : List Addr} (I : Inv X pins σ H s) (ho : s'.os = s.os) (u : Un (frs X.stack) ch H H' s.heap s'.heap) (hok : HOk X.prog X.w H' s'.heap) (hg : AllBare s'.gens)
    (hch : ∀ b ∈ ch, (b ∈ X.ex ∨ X.s₀.heap.objs.size ≤ b) ∧ b ≠ X.env.locals ∧ (∀ x c, X.env.cells.lookup x = some c → c ≠ b) ∧ ∀ p ∈ X.pn ++ pins, p.1 ≠ b) : Inv X pins σ H' s' := by
  obtain ⟨h', g', d', t', o'⟩ := s'
  have e : o' = s.os := ho
  subst e
  exact I.call (g' := g') (t' := t') (d' := d') u hok hg hch
end
/- an exception: its class, its own dict's address (where it has one), the abstract heap behind it -/
noncomputable abbrev XK := Value → Option Addr → Hp → Prop
noncomputable abbrev St := List (Option V)
noncomputable abbrev VK := V → Hp → Prop
/- an expression's reading; a test's; an argument list's -/
noncomputable abbrev TE := St → Hp → VK → Prop
noncomputable abbrev TT := St → Hp → (Bool → Hp → Prop) → Prop
noncomputable abbrev TA := St → Hp → (List V → Hp → Prop) → Prop
/- what is wanted behind a statement -/
structure Ends where
  nx : St → Hp → Prop
  rt : VK
  bk : St → Hp → Prop := fun _ _ => False
  ct : St → Hp → Prop := fun _ _ => False
noncomputable abbrev TS := Ends → St → Hp → Prop
inductive EP (X : Cx) (pins : List (Addr × Obj)) (σ : St) (Q : VK) (u : Value) (s' : Shared) : Prop
  | mk : ∀ v H', Inv X pins σ H' s' → RelV v u → Q v H' → EP X pins σ Q u s'
inductive TP (X : Cx) (pins : List (Addr × Obj)) (σ : St) (Q : Bool → Hp → Prop) (b : Bool) (s' : Shared) : Prop
  | mk : ∀ H', Inv X pins σ H' s' → Q b H' → TP X pins σ Q b s'
inductive AP (X : Cx) (pins : List (Addr × Obj)) (σ : St) (Q : List V → Hp → Prop) (us : List Value) (s' : Shared) : Prop
  | mk : ∀ vs H', Inv X pins σ H' s' → Vals vs us → Q vs H' → AP X pins σ Q us s'
inductive SPn (X : Cx) (pins : List (Addr × Obj)) (N : St → Hp → Prop) (s' : Shared) : Prop
  | mk : ∀ σ' H', Inv X pins σ' H' s' → N σ' H' → SPn X pins N s'
inductive SPr (X : Cx) (pins : List (Addr × Obj)) (N : VK) (u : Value) (s' : Shared) : Prop
  | mk : ∀ v σ' H', Inv X pins σ' H' s' → RelV v u → N v H' → SPr X pins N u s'
noncomputable def SP (X : Cx) (pins : List (Addr × Obj)) (D : Ends) (f : Flow) (s' : Shared) : Prop :=
  match f with
  | .next => SPn X pins D.nx s'
  | .brk => SPn X pins D.bk s'
  | .cont => SPn X pins D.ct s'
  | .ret u => SPr X pins D.rt u s'
noncomputable def PE (X : Cx) (e : Expr) (t : TE) : Prop :=
  ∀ (pins : List (Addr × Obj)) (s : Shared) (σ : St) (H : Hp) (Q : VK), Inv X pins σ H s → t σ H Q → wpAny (model X.prog X.w) X.A (eval e X.env) (EP X pins σ Q) X.xe s
noncomputable def PT (X : Cx) (e : Expr) (t : TT) : Prop :=
  ∀ (pins : List (Addr × Obj)) (s : Shared) (σ : St) (H : Hp) (Q : Bool → Hp → Prop), Inv X pins σ H s → t σ H Q → wpAny (model X.prog X.w) X.A (isTrue e X.env (eval e X.env)) (TP X pins σ Q) X.xe s
/- a test whatever its 'whole' is (and, or) -/
noncomputable def PW (X : Cx) (e : Expr) (t : TT) : Prop :=
  ∀ (whole : Sem Value) (pins : List (Addr × Obj)) (s : Shared) (σ : St) (H : Hp) (Q : Bool → Hp → Prop), Inv X pins σ H s → t σ H Q → wpAny (model X.prog X.w) X.A (isTrue e X.env whole) (TP X pins σ Q) X.xe s
theorem PW.pt {X : Cx} {e : Expr} {t : TT} (h : PW X e t) : PT X e t := h _
/- an argument list (no star), from the left -/
noncomputable def PA (X : Cx) (es : List Expr) (t : TA) : Prop :=
  ∀ (pos : Pos) (pins : List (Addr × Obj)) (s : Shared) (σ : St) (H : Hp) (Q : List V → Hp → Prop), Inv X pins σ H s → t σ H Q → wpAny (model X.prog X.w) X.A (spliced (backTo pos (starEach es X.env))) (AP X pins σ Q) X.xe s
noncomputable def PS (X : Cx) (st : Stmt) (t : TS) : Prop :=
  ∀ (pins : List (Addr × Obj)) (s : Shared) (σ : St) (H : Hp) (D : Ends), Inv X pins σ H s → t D σ H → wpAny (model X.prog X.w) X.A (exec st X.env) (SP X pins D) X.xe s
noncomputable def PSs (X : Cx) (st : List Stmt) (t : TS) : Prop :=
  ∀ (pins : List (Addr × Obj)) (s : Shared) (σ : St) (H : Hp) (D : Ends), Inv X pins σ H s → t D σ H → wpAny (model X.prog X.w) X.A (execs st X.env) (SP X pins D) X.xe s
/- weaken the end -/
theorem thn {α : Type} {t : Sem α} {Q Q' : α → Shared → Prop} {M : Model} {A : Around} {E : Value → Shared → Prop} {s : Shared} (h : wpAny M A t Q E s) (hQ : ∀ a s, Q a s → Q' a s) : wpAny M A t Q' E s := wpAny_mono h hQ fun _ _ x => x
end L2
namespace L2
open PySem PySem.Spec PyProof.Rows
section
variable {X : Cx}
inductive tVar_I (i : Nat) (σ : St) (H : Hp) (Q : VK) : Prop
  | mk : ∀ v, σ[i]? = some (some v) → Q v H → tVar_I i σ H Q
noncomputable def tVar (i : Nat) : TE := fun σ H Q => tVar_I i σ H Q
noncomputable def tC (v : V) : TE := fun _ H Q => Q v H
theorem pe_var {i : Nat} {x : Str} {pos : Pos} (hN : X.N[i]? = some x) (hv : Vis X.env.scope x) (hd : (x == ("__debug__" : Str)) = false := by decide) (hcd : (x == ("__classdict__" : Str)) = false := by decide) : PE X (.Name x pos) (tVar i) := by
  intro pins s σ H Q I h
  obtain ⟨v, e, h⟩ := h
  obtain ⟨m, hn, hl⟩ := I.loc
  obtain ⟨u, r, l⟩ := hl i x v hN e hv
  have fin : EP X pins σ Q u s := ⟨v, H, I, r, h⟩
  rcases l with ⟨hk, hm⟩ | ⟨hk, c, hc, hcell⟩
  · exact wpAny_Name (wpAny_loadName_local I.ok.kind hk hn hm fin) hd
  · rcases hk with hk | hk
    · exact wpAny_Name (wpAny_loadName_cell I.ok.kind hk hc hcell fin) hd
    · exact wpAny_Name (wpAny_loadName_free I.ok.kind hk hc hcell fin hcd) hd
theorem pe_int {i j pos} : PE X (.Constant (.int i) j pos) (tC (.int i)) := fun _ _ _ H _ I h => wpAny_Constant_int ⟨.int i, H, I.tok _, ⟨_, rfl⟩, h⟩
theorem pe_bl {b j pos} : PE X (.Constant (.bool b) j pos) (tC (.bl b)) := fun _ _ _ H _ I h => Constant_bool ⟨.bl b, H, I, rfl, h⟩
theorem pe_non {j pos} : PE X (.Constant .none j pos) (tC .non) := fun _ _ _ H _ I h => Constant_none ⟨.non, H, I, rfl, h⟩
theorem pe_str {x j pos} : PE X (.Constant (.str x) j pos) (tC (.str x)) := fun _ _ _ H _ I h => Calls.Constant_str ⟨.str x, H, I.tok _, ⟨_, rfl⟩, h⟩
/- a global name of the def -/
noncomputable def Gl (X : Cx) (x : Str) : Prop := X.env.kindOf x = some .globalImplicit
theorem ld_glob {E : Value → Shared → Prop} {pins : List (Addr × Obj)} {s : Shared} {σ : St} {H : Hp} {x : Str} {u : Value} {pos : Pos} {Q : Value → Shared → Prop} (I : Inv X pins σ H s) (hg : Gl X x) (hm : X.mg x = some u) (h : Q u s)
    (hd : (x == ("__debug__" : Str)) = false := by decide) : wpAny (model X.prog X.w) X.A (eval (.Name x pos) X.env) Q E s :=
  Calls.Name_function_global I.ok.kind hg (Calls.loadGlobal_global (by rw [I.ok.glob]; exact I.mod.glob.keeps I.bk) hm h) hd
theorem ld_blt {E : Value → Shared → Prop} {pins : List (Addr × Obj)} {s : Shared} {σ : St} {H : Hp} {x : Str} {u : Value} {pos : Pos} {Q : Value → Shared → Prop} (I : Inv X pins σ H s) (hg : Gl X x) (hm : X.mg x = none) (hv : bootBuiltins x = some u) (h : Q u s)
    (hn : x ≠ "__name__" := by decide) (hd : (x == ("__debug__" : Str)) = false := by decide) : wpAny (model X.prog X.w) X.A (eval (.Name x pos) X.env) Q E s := by
  obtain ⟨mb, h1, h2⟩ := I.mod.blt
  exact Calls.Name_function_global I.ok.kind hg (Calls.loadGlobal_builtin (by rw [I.ok.glob]; exact I.mod.glob.keeps I.bk) hm (by rw [I.ok.blt]; exact h1.keeps I.bk) ((h2 x hn).trans hv) h) hd
/- a module's constant, a class, a function, as a value -/
theorem pe_glob {x : Str} {v : V} {u : Value} {pos : Pos} (hg : Gl X x) (hm : X.mg x = some u) (r : RelV v u) (hd : (x == ("__debug__" : Str)) = false := by decide) : PE X (.Name x pos) (tC v) :=
  fun _ _ _ H _ I h => ld_glob I hg hm ⟨v, H, I, r, h⟩ hd
theorem pe_bltn {x : Str} {v : V} {u : Value} {pos : Pos} (hg : Gl X x) (hm : X.mg x = none) (hv : bootBuiltins x = some u) (r : RelV v u) (hn : x ≠ "__name__" := by decide) (hd : (x == ("__debug__" : Str)) = false := by decide) : PE X (.Name x pos) (tC v) :=
  fun _ _ _ H _ I h => ld_blt I hg hm hv ⟨v, H, I, r, h⟩ hn hd
variable {a b : Expr} {ta tb : TE} {pos : Pos}
noncomputable def PC (X : Cx) (op : CmpOp) (a b : Expr) (t : TE) : Prop :=
  ∀ (pins : List (Addr × Obj)) (s : Shared) (σ : St) (H : Hp) (Q : VK), Inv X pins σ H s → t σ H Q →
    wpAny (model X.prog X.w) X.A (eval a X.env) (fun v s₁ => wpAny (model X.prog X.w) X.A (eval b X.env) (fun u s₂ => wpAny (model X.prog X.w) X.A (compareOp op v u) (EP X pins σ Q) X.xe s₂) X.xe s₁) X.xe s
/- a comparison as a value, as a test -/
inductive tB_I (Q : (Bool → Hp → Prop)) (x : V) (H1 : Hp) : Prop
  | mk : ∀ c, x = .bl c → Q c H1 → tB_I Q x H1
noncomputable def tB (t : TE) : TT := fun σ H Q => t σ H fun x H1 => tB_I Q x H1
theorem pt_cmp {op : CmpOp} {t : TE} (h : PC X op a b t) (h1 : behindInMarks op b = false := by first | exact nobehind _ (by decide) (by decide) | rfl) : PT X (.Compare a [op] [b] pos) (tB t) := by
  intro pins s σ H Q I hw
  refine wpAny_isTrue_Compare1 (thn (h pins s σ H _ I hw) fun v s1 h1 => thn h1 fun u s2 h2 => thn h2 fun c s3 ⟨x, H1, I1, r1, q1⟩ => ?_) h1
  obtain ⟨d, rfl, q⟩ := q1
  cases r1
  exact wpAny_truthy_bool ⟨H1, I1, q⟩
/- an expression whose value is a bool, as a test -/
theorem pt_val {e : Expr} {t : TE} (h : PE X e t) (he : ∀ whole, isTrue e X.env whole = (do let v ← whole; standAt e.pos; holding [v] (truthy v)) := by intro _; rfl) : PT X e (tB t) := by
  intro pins s σ H Q I hw
  refine isTrue_plain (thn (h pins s σ H _ I hw) fun v s1 ⟨x, H1, I1, r1, q1⟩ => ?_) (he _)
  obtain ⟨d, rfl, q⟩ := q1
  cases r1
  exact wpAny_truthy_bool ⟨H1, I1, q⟩
variable {tA tB' : TT} {rest : List Expr}
noncomputable def tAnd (t u : TT) : TT := fun σ H Q => t σ H fun c H1 => if c = true then u σ H1 Q else Q false H1
noncomputable def tOr (t u : TT) : TT := fun σ H Q => t σ H fun c H1 => if c = true then Q true H1 else u σ H1 Q
noncomputable def tNot (t : TT) : TT := fun σ H Q => t σ H fun c H1 => Q (!c) H1
theorem pw_and1 (ha : PT X a tA) : PW X (.BoolOp .And [a] pos) tA := by
  intro wh pins s σ H Q I h
  refine isTrue_and (thn (ha pins s σ H Q I h) fun c s1 e => ?_)
  cases c with
  | true => exact isTrue_and_nil e
  | false => exact e
theorem pw_or1 (ha : PT X a tA) : PW X (.BoolOp .Or [a] pos) tA := by
  intro wh pins s σ H Q I h
  refine isTrue_or (thn (ha pins s σ H Q I h) fun c s1 e => ?_)
  cases c with
  | false => exact isTrue_or_nil e
  | true => exact e
theorem pw_and (ha : PT X a tA) (hb : PW X (.BoolOp .And (b :: rest) pos) tB') : PW X (.BoolOp .And (a :: b :: rest) pos) (tAnd tA tB') := by
  intro wh pins s σ H Q I h
  refine isTrue_and (thn (ha pins s σ H _ I h) fun c s1 ⟨H1, I1, q1⟩ => ?_)
  cases c with
  | true => exact hb wh pins s1 σ H1 Q I1 q1
  | false => exact ⟨H1, I1, q1⟩
theorem pw_or (ha : PT X a tA) (hb : PW X (.BoolOp .Or (b :: rest) pos) tB') : PW X (.BoolOp .Or (a :: b :: rest) pos) (tOr tA tB') := by
  intro wh pins s σ H Q I h
  refine isTrue_or (thn (ha pins s σ H _ I h) fun c s1 ⟨H1, I1, q1⟩ => ?_)
  cases c with
  | true => exact ⟨H1, I1, q1⟩
  | false => exact hb wh pins s1 σ H1 Q I1 q1
theorem pt_not (ha : PT X a tA) : PT X (.UnaryOp .Not a pos) (tNot tA) := by
  intro pins s σ H Q I h
  exact isTrue_not (thn (ha pins s σ H (fun c H1 => Q (!c) H1) I h) fun c s1 ⟨H1, I1, q1⟩ => ⟨H1, I1, q1⟩)
/- .. as values (bools) -/
inductive tAndV_I (tb : TE) (σ : St) (Q : VK) (x : V) (H1 : Hp) : Prop
  | mk : ∀ c, x = .bl c → (if c = true then tb σ H1 Q else Q (.bl false) H1) → tAndV_I tb σ Q x H1
noncomputable def tAndV (ta tb : TE) : TE := fun σ H Q => ta σ H fun x H1 => tAndV_I tb σ Q x H1
theorem pe_one {op} {t : TE} (h : PE X a t) : PE X (.BoolOp op [a] pos) t := fun pins s σ H Q I hw => BoolOp_one (h pins s σ H Q I hw)
theorem pe_and (ha : PE X a ta) (hb : PE X (.BoolOp .And (b :: rest) pos) tb) : PE X (.BoolOp .And (a :: b :: rest) pos) (tAndV ta tb) := by
  intro pins s σ H Q I h
  refine BoolOp_and (thn (ha pins s σ H _ I h) fun v s1 ⟨x, H1, I1, r1, q1⟩ => ?_)
  obtain ⟨c, rfl, q1⟩ := q1
  cases r1
  refine wpAny_truthy_bool ?_
  cases c with
  | true => exact hb pins s1 σ H1 Q I1 q1
  | false => exact ⟨.bl false, H1, I1, rfl, q1⟩
end
end L2
namespace L2
open PySem PySem.Spec PyProof.Rows
noncomputable def SqL (K : PySem.W.Frag) (H : Hp) (a : Addr) (xs : List V) : Prop :=
  Rd H a (.lst xs) ∨
    ∃ (o : Obj) (its : Array Value) (n : Nat), K.lookup a = some o ∧ o.cls = .type "list" ∧ o.dict = none ∧ o.data = .seq its n ∧ its.size ≤ sizeLine ∧ Vals xs its.toList
noncomputable def SqT (K : PySem.W.Frag) (H : Hp) (a : Addr) (xs : List V) : Prop :=
  Rd H a (.tup xs) ∨
    ∃ (o : Obj) (its : Array Value) (n : Nat), K.lookup a = some o ∧ o.cls = .type "tuple" ∧ o.data = .seq its n ∧ its.size ≤ sizeLine ∧ Vals xs its.toList
noncomputable def absV : Value → Option V
  | .none => some .non
  | .bool b => some (.bl b)
  | .int i _ => some (.int i)
  | .str x _ => some (.str x)
  | .bytes b _ => some (.byt b)
  | .float b _ => some (.flt b)
  | .ref a => some (.ref a)
  | .type n => some (.ty n)
  | _ => none
theorem RelV.abs {x : V} {u : Value} (r : RelV x u) : absV u = some x := by
  cases x with
  | non => cases r; rfl
  | bl _ => cases r; rfl
  | int _ => obtain ⟨t, rfl⟩ := r; rfl
  | str _ => obtain ⟨t, rfl⟩ := r; rfl
  | byt _ => obtain ⟨t, rfl⟩ := r; rfl
  | flt _ => obtain ⟨t, rfl⟩ := r; rfl
  | ref _ => cases r; rfl
  | ty _ => cases r; rfl
theorem RelV.inj {x y : V} {u : Value} (r : RelV x u) (q : RelV y u) : x = y := Option.some.inj (r.abs.symm.trans q.abs)
theorem Vals.inj {xs ys : List V} {us : List Value} (h : Vals xs us) (h' : Vals ys us) : xs = ys := by
  induction h generalizing ys with
  | nil => cases h'; rfl
  | cons r t ih => cases h' with
    | cons r' t' => rw [r.inj r', ih t']
section
variable {X : Cx} {pins : List (Addr × Obj)} {σ : St} {H : Hp} {s : Shared} {a : Addr} {xs ys : List V}
theorem SqL.of {K : PySem.W.Frag} (h : H a = some (.lst xs)) : SqL K H a xs := .inl (.inl h)
theorem Inv.list (I : Inv X pins σ H s) (h : SqL X.K H a xs) : ∃ its : List Value, Vals xs its ∧ PlainL s.heap a its.toArray ∧ xs.length ≤ sizeLine := by
  rcases h with h | ⟨o, its, n, hk, hc, hd, hs, hz, r⟩
  · obtain ⟨z, its, n, r, e⟩ := h.ok I.hok
    exact ⟨its, r, ⟨_, n, e, rfl, rfl, rfl⟩, z⟩
  · refine ⟨its.toList, r, ⟨o, n, I.kIn a o hk, hc, hd, by simpa using hs⟩, ?_⟩
    have e := r.length
    simp only [Array.length_toList] at e
    omega
theorem Inv.tuple (I : Inv X pins σ H s) (h : SqT X.K H a xs) : ∃ its : List Value, Vals xs its ∧ IsTup s.heap a its.toArray ∧ xs.length ≤ sizeLine := by
  rcases h with h | ⟨o, its, n, hk, hc, hs, hz, r⟩
  · obtain ⟨z, its, r, p⟩ := h.ok I.hok
    exact ⟨its, r, p, z⟩
  · refine ⟨its.toList, r, ⟨o, I.kIn a o hk, hc, n, by simpa using hs⟩, ?_⟩
    have e := r.length
    simp only [Array.length_toList] at e
    omega
theorem Inv.list_inj (I : Inv X pins σ H s) (h : SqL X.K H a xs) (h' : SqL X.K H a ys) : xs = ys := by
  obtain ⟨its, r, ⟨o, n, e, _, _, d⟩, _⟩ := I.list h
  obtain ⟨its', r', ⟨o', n', e', _, _, d'⟩, _⟩ := I.list h'
  rw [e] at e'; cases e'
  rw [d] at d'
  injection d' with d1 _
  have : its = its' := by simpa using congrArg Array.toList d1
  subst this
  exact r.inj r'
end
noncomputable abbrev Cx.wish (X : Cx) (E : Value → Shared → Prop) : Cx := { X with xe := E }
/- no exception leaves -/
noncomputable abbrev Cx.nox (X : Cx) : Cx := X.wish fun _ _ => False
theorem Cx.Ok.wish {X : Cx} (ok : X.Ok) (E : Value → Shared → Prop) : (X.wish E).Ok :=
  ⟨ok.mod, ok.kind, ok.glob, ok.blt, ok.above, ok.inj, ok.has, ok.cab, ok.hd, ok.frames, ok.stk, ok.exf, ok.bs, ok.bsz, ok.noex, ok.exfs, ok.funs, ok.frf⟩
theorem Cx.Ok.unwish {X : Cx} {E : Value → Shared → Prop} (ok : (X.wish E).Ok) : X.Ok :=
  ⟨ok.mod, ok.kind, ok.glob, ok.blt, ok.above, ok.inj, ok.has, ok.cab, ok.hd, ok.frames, ok.stk, ok.exf, ok.bs, ok.bsz, ok.noex, ok.exfs, ok.funs, ok.frf⟩
section
variable {X : Cx} {pins : List (Addr × Obj)} {σ : St} {H : Hp} {s : Shared} {E : Value → Shared → Prop}
theorem Inv.wish (I : Inv X pins σ H s) (E : Value → Shared → Prop) : Inv (X.wish E) pins σ H s := ⟨I.ok.wish E, I.os, I.bare, I.base, I.loc, I.cell, I.free, I.freeC, I.pin, I.hok, I.len⟩
theorem Inv.unwish (I : Inv (X.wish E) pins σ H s) : Inv X pins σ H s := ⟨I.ok.unwish, I.os, I.bare, I.base, I.loc, I.cell, I.free, I.freeC, I.pin, I.hok, I.len⟩
theorem SP.unwish {D : Ends} {f : Flow} {s' : Shared} (h : SP (X.wish E) pins D f s') : SP X pins D f s' := by
  cases f with
  | next => obtain ⟨σ', H', I, q⟩ := h; exact ⟨σ', H', I.unwish, q⟩
  | brk => obtain ⟨σ', H', I, q⟩ := h; exact ⟨σ', H', I.unwish, q⟩
  | cont => obtain ⟨σ', H', I, q⟩ := h; exact ⟨σ', H', I.unwish, q⟩
  | ret u => obtain ⟨v, σ', H', I, r, q⟩ := h; exact ⟨v, σ', H', I.unwish, r, q⟩
theorem PSs.nox {st : List Stmt} {t : TS} (h : PSs X.nox st t) : PSs X st t := fun pins s σ H D I hw =>
  wpAny_mono (h pins s σ H D (I.wish _) hw) (fun _ _ q => q.unwish) fun _ _ z => False.elim z
end
section
variable {X : Cx} {st : Stmt} {rest : List Stmt} {t u : TS} {e : Expr} {te : TE} {pos : Pos}
noncomputable def tNext : TS := fun D σ H => D.nx σ H
noncomputable def tSeq (t u : TS) : TS := fun D σ H => t { D with nx := u D } σ H
theorem pss_nil : PSs X [] tNext := fun _ _ σ H _ I h => wpAny_execs_nil ⟨σ, H, I, h⟩
theorem pss_cons (h1 : PS X st t) (h2 : PSs X rest u) : PSs X (st :: rest) (tSeq t u) := by
  intro pins s σ H D I h
  refine wpAny_execs_cons (thn (h1 pins s σ H { D with nx := u D } I h) fun f s1 q => ?_)
  cases f with
  | next =>
    obtain ⟨σ', H', I', q⟩ := q
    exact h2 pins s1 σ' H' D I' q
  | ret v => exact q
  | brk => exact q
  | cont => exact q
theorem pss_one (h1 : PS X st t) : PSs X [st] t := by
  intro pins s σ H D I h
  refine wpAny_execs_cons (thn (h1 pins s σ H D I h) fun f s1 q => ?_)
  cases f with
  | next => exact wpAny_execs_nil q
  | ret v => exact q
  | brk => exact q
  | cont => exact q
/- in a def's body nothing is shown -/
theorem Inv.quiet {pins : List (Addr × Obj)} {σ : St} {H : Hp} {s : Shared} (I : Inv X pins σ H s) : interactive X.env = false := by simp [interactive, I.ok.kind]
/- an expression whose value is dropped -/
noncomputable def tDrop (te : TE) : TS := fun D σ H => te σ H fun _ H1 => D.nx σ H1
theorem ps_expr (he : PE X e te) (hs : swapsWith e none pos.line X.env = pure false := by rfl) : PS X (.Expr e pos) (tDrop te) := by
  intro pins s σ H D I h
  exact wpAny_Expr_any (thn (he pins s σ H _ I h) fun v s1 ⟨x, H1, I1, r1, q1⟩ => ⟨σ, H1, I1, q1⟩) I.quiet hs
noncomputable def tRet (te : TE) : TS := fun D σ H => te σ H D.rt
theorem ps_ret (he : PE X e te) : PS X (.Return (some e) pos) (tRet te) := by
  intro pins s σ H D I h
  exact wpAny_Return_some (thn (he pins s σ H _ I h) fun v s1 ⟨x, H1, I1, r1, q1⟩ => ⟨x, σ, H1, I1, r1, q1⟩)
noncomputable def tIfS (c : TT) (t u : TS) : TS := fun D σ H => c σ H fun b H1 => if b = true then t D σ H1 else u D σ H1
theorem ps_if {c : Expr} {a b : List Stmt} {tc : TT} (hc : PT X c tc) (ha : PSs X a t) (hb : PSs X b u) : PS X (.If c a b pos) (tIfS tc t u) := by
  intro pins s σ H D I h
  refine wpAny_If (thn (hc pins s σ H _ I h) fun d s1 ⟨H1, I1, q1⟩ => ?_)
  cases d with
  | true => exact ha pins s1 σ H1 D I1 q1
  | false => exact hb pins s1 σ H1 D I1 q1
/- code that the proof never comes to -/
noncomputable def tNever : TS := fun _ _ _ => False
theorem ps_never : PS X st tNever := fun _ _ _ _ _ _ h => h.elim
theorem pss_never {sts : List Stmt} : PSs X sts tNever := fun _ _ _ _ _ _ h => h.elim
end
noncomputable abbrev TG := V → St → Hp → (St → Hp → Prop) → Prop
noncomputable def PG (X : Cx) (target : Expr) (t : TG) : Prop :=
  ∀ (pins : List (Addr × Obj)) (s : Shared) (σ : St) (H : Hp) (v : V) (u : Value) (Q : St → Hp → Prop), Inv X pins σ H s → RelV v u → t v σ H Q →
    wpAny (model X.prog X.w) X.A (assign target X.env u) (fun _ s' => ∃ σ' H', Inv X pins σ' H' s' ∧ Q σ' H') X.xe s
section
variable {X : Cx} {pos : Pos}
noncomputable def gName (i : Nat) : TG := fun v σ H Q => Q (σ.set i (some v)) H
theorem pg_name {i : Nat} {x : Str} (hN : X.N.Nodup) (hi : X.N[i]? = some x) (hx : Loc X.env.scope x) (hf : X.fn x = true ∨ X.env.scope.names.lookup x = some .local := by first | exact .inl rfl | exact .inr rfl | assumption) : PG X (.Name x pos) (gName i) := by
  intro pins s σ H v u Q I r h
  exact wpAny_assign_Name (store_ok I hN hi hx r (fun s' I' => ⟨_, H, I', h⟩) hf)
/- target = value -/
noncomputable def tAsg (te : TE) (g : TG) : TS := fun D σ H => te σ H fun x H1 => g x σ H1 D.nx
/- name = value -/
theorem ps_set {i : Nat} {x : Str} {e : Expr} {te : TE} {pos' : Pos} (hN : X.N.Nodup) (hi : X.N[i]? = some x) (hx : Loc X.env.scope x) (he : PE X e te) (hs : swapsWith e (some (.Name x pos')) pos.line X.env = pure false := by rfl) (hf : X.fn x = true ∨ X.env.scope.names.lookup x = some .local := by first | exact .inl rfl | exact .inr rfl | assumption) :
    PS X (.Assign [.Name x pos'] e pos) (tAsg te (gName i)) := by
  intro pins s σ H D I h
  refine wpAny_Assign_Name (thn (he pins s σ H _ I h) fun v s1 ⟨y, H1, I1, r1, q1⟩ => ?_) hs
  exact store_ok I1 hN hi hx r1 (fun s2 I2 => ⟨_, H1, I2, q1⟩) hf
end
section
variable {X : Cx} {pos : Pos}
/- the invariant W with its measure -/
inductive tWhile_I (c : TT) (tb : TS) (D : Ends) (σ : St) (H : Hp) : Prop
  | mk : ∀ W : Nat → St → Hp → Prop, (∃ m, W m σ H) → (∀ m σ H, W m σ H → c σ H fun b H1 => if b = true then ∃ N : St → Hp → Prop, (∀ σ' H', N σ' H' → ∃ m', m' < m ∧ W m' σ' H') ∧ tb { D with nx := N, ct := N, bk := D.nx } σ H1 else D.nx σ H1) → tWhile_I c tb D σ H
noncomputable def tWhile (c : TT) (tb : TS) : TS := fun D σ H => tWhile_I c tb D σ H
theorem ps_while {c : Expr} {body : List Stmt} {tc : TT} {tb : TS} (hp : PassesOwn (model X.prog X.w) X.A X.env X.xe) (hc : PT X c tc) (hb : PSs X body tb) : PS X (.While c body [] pos) (tWhile tc tb) := by
  intro pins s σ H D I h
  obtain ⟨W, ⟨m0, w0⟩, turn⟩ := h
  refine wpAny_While (codeAny_whileLoop (fun n s' => ∃ σ' H', Inv X pins σ' H' s' ∧ W n σ' H') ?_ m0 ⟨σ, H, I, w0⟩)
  rintro n s1 ⟨σ1, H1, I1, w1⟩
  refine wpAny_passesOwn hp (thn (hc pins s1 σ1 H1 _ I1 (turn n σ1 H1 w1)) fun b s2 ⟨H2, I2, q2⟩ => ?_)
  cases b with
  | true =>
    obtain ⟨N, hN, q2⟩ := q2
    rw [if_pos rfl]
    refine wpAny_passesOwn hp (thn (hb pins s2 σ1 H2 _ I2 q2) fun f s3 q3 => ?_)
    cases f with
    | next =>
      obtain ⟨σ3, H3, I3, n3⟩ := q3
      obtain ⟨m', hm, w3⟩ := hN σ3 H3 n3
      exact ⟨m', hm, σ3, H3, I3, w3⟩
    | cont =>
      obtain ⟨σ3, H3, I3, n3⟩ := q3
      obtain ⟨m', hm, w3⟩ := hN σ3 H3 n3
      exact ⟨m', hm, σ3, H3, I3, w3⟩
    | brk => exact q3
    | ret v => exact q3
  | false =>
    rw [if_neg Bool.false_ne_true]
    exact wpAny_execs_nil ⟨σ1, H2, I2, q2⟩
end
/- at turn i: it yields x (the heap may grow), or it stops -/
structure It where
  go : Nat → Hp → Prop
  yld : Nat → Hp → V → Hp → Prop
  stop : Nat → Hp → Prop
/- the iterator's own objects may turn: they are not the frame's, not pinned, younger than the entry (or a comprehension's own) -/
noncomputable def FpOk (X : Cx) (pins : List (Addr × Obj)) (H : Hp) (b : Addr) : Prop :=
  H b = none ∧ b ≠ X.env.locals ∧ b ∉ X.fs ∧ (b ∈ X.ex ∨ X.s₀.heap.objs.size ≤ b) ∧ (∀ x c, X.env.cells.lookup x = some c → c ≠ b) ∧ ∀ p ∈ X.pn ++ pins, p.1 ≠ b
theorem Inv.fpOk {X : Cx} {pins : List (Addr × Obj)} {σ : St} {H H' : Hp} {s : Shared} {b : Addr} (I : Inv X pins σ H s) (hb : s.heap.objs.size ≤ b) (hn : H' b = none) : FpOk X pins H' b := by
  refine ⟨hn, Nat.ne_of_gt (Nat.lt_of_lt_of_le I.lt hb), I.nofs hb, .inr (Nat.le_trans I.sz hb), fun x c e z => ?_, fun p hp z => ?_⟩
  · obtain ⟨v, q⟩ := I.cell x c e
    exact absurd (Nat.lt_of_lt_of_le q.lt (by rw [z]; exact hb)) (Nat.lt_irrefl _)
  · exact absurd (Nat.lt_of_lt_of_le (Heap.lt_size (I.pin p hp).1) (by rw [z]; exact hb)) (Nat.lt_irrefl _)
structure Turn (P : Program) (w : World) (K : PySem.W.Frag) (tg : Expr) (J : It) (fp : List Addr) (it : Addr) (tn : Nat → Heap → Prop) : Prop where
  mem : it ∈ fp
  obj : ∀ i h, tn i h → ∀ b ∈ fp, ∃ o, h.get? b = some o ∧ ∀ v, o.data ≠ .cell v
  keep : ∀ i h h', tn i h → (∀ b ∈ fp, ∀ o, h.get? b = some o → h'.get? b = some o) → tn i h'
  item : ∀ (X : Cx), X.prog = P → X.w = w → X.K = K → X.calm = true → ∀ (i : Nat) (pins : List (Addr × Obj)) (s : Shared) (σ : St) (H : Hp) (E : Value → Shared → Prop), Inv X pins σ H s → (∀ b ∈ fp, FpOk X pins H b) → tn i s.heap → J.go i H →
    wpAny (model P w) X.A (pyNext (.ref it)) (fun r s1 => ∃ u, r = some u ∧
      wpAny (model P w) X.A (letOwnedTupleGo tg (.ref it) u) (fun _ s2 => ∃ x H', Inv X pins σ H' s2 ∧ RelV x u ∧ J.yld i H x H' ∧ tn (i + 1) s2.heap ∧ ∀ b ∈ fp, H' b = none) E s1) E s
  done : ∀ (X : Cx), X.prog = P → X.w = w → X.K = K → X.calm = true → ∀ (i : Nat) (pins : List (Addr × Obj)) (s : Shared) (σ : St) (H : Hp) (E : Value → Shared → Prop), Inv X pins σ H s → (∀ b ∈ fp, FpOk X pins H b) → tn i s.heap → J.stop i H →
    wpAny (model P w) X.A (pyNext (.ref it)) (fun r s1 => r = none ∧ Inv X pins σ H s1) E s
  self : ∀ (A : Around) (i : Nat) (s : Shared) (Q : Value → Shared → Prop) (E : Value → Shared → Prop), tn i s.heap → Q (.ref it) s → wpAny (model P w) A (pyIter (.ref it)) Q E s
noncomputable abbrev TI := St → Hp → (It → Hp → Prop) → Prop
/- an iterator has come -/
noncomputable def PIE (X : Cx) (pins : List (Addr × Obj)) (σ : St) (tg : Expr) (R : It → Hp → Prop) (itv : Value) (s2 : Shared) : Prop :=
  ∃ (it : Addr) (fp : List Addr) (tn : Nat → Heap → Prop) (J : It) (H' : Hp), itv = .ref it ∧ Inv X pins σ H' s2 ∧ Turn X.prog X.w X.K tg J fp it tn ∧ tn 0 s2.heap ∧ (∀ b ∈ fp, FpOk X pins H' b) ∧ R J H'
noncomputable def PI (X : Cx) (tg iter : Expr) (wi : TI) : Prop :=
  ∀ (pins : List (Addr × Obj)) (s : Shared) (σ : St) (H : Hp) (R : It → Hp → Prop), Inv X pins σ H s → wi σ H R →
    wpAny (model X.prog X.w) X.A (eval iter X.env) (fun v s1 => wpAny (model X.prog X.w) X.A (pyIter v) (PIE X pins σ tg R) X.xe s1) X.xe s
/- the step ahead of the store is nothing for an iterator that keeps no tuple -/
theorem go_of {M : Model} {A : Around} {E : Value → Shared → Prop} {s : Shared} {tg : Expr} {it : Addr} {u : Value} {o : Obj} {n : String} {vs : Array Value} {Q : Unit → Shared → Prop} (ho : s.heap.get? it = some o) (hc : o.cls = .type n) (hd : o.data = .fields vs)
    (hn : ["enumerate", "zip", "dict_itemiterator", "dict_reverseitemiterator", "odict_iterator", "itertools.zip_longest", "itertools.pairwise"].contains n = false) (hQ : Q () s) : wpAny M A (letOwnedTupleGo tg (.ref it) u) Q E s := by
  unfold letOwnedTupleGo
  cases tg <;> first
    | exact wpAny_pure hQ
    | (cases u <;> first
        | exact wpAny_pure hQ
        | (refine wpAny_bind (wpAny_load ho ?_)
           rw [hc, hd]
           show wpAny M A (if (["enumerate", "zip", "dict_itemiterator", "dict_reverseitemiterator", "odict_iterator", "itertools.zip_longest", "itertools.pairwise"].contains n && vs[0]? == some (rawInt _)) = true then _ else _) Q E s
           rw [if_neg (by intro h; rw [hn, Bool.false_and] at h; cases h)]
           exact wpAny_pure hQ))
/- the list at a, as it stands at each turn (a loop may append to it) -/
noncomputable def Itl (K : PySem.W.Frag) (a : Addr) : It :=
  ⟨fun i H => ∃ xs x, SqL K H a xs ∧ xs[i]? = some x, fun i H x H' => H' = H ∧ ∀ xs, SqL K H a xs → xs[i]? = some x, fun i H => ∃ xs, SqL K H a xs ∧ xs.length ≤ i⟩
/- lo, lo + 1, .. (n of them) -/
noncomputable def Itr (lo : Int) (n : Nat) : It := ⟨fun i _ => i < n, fun i H x H' => H' = H ∧ x = .int (lo + i), fun i _ => n ≤ i⟩
theorem turn_list {P : Program} {w : World} {K : PySem.W.Frag} {tg : Expr} (a it : Addr) : Turn P w K tg (Itl K a) [it] it (fun i h => h.IsListIter it a i) where
  mem := by simp
  obj := fun i h st b hb => by
    have e : b = it := by simpa using hb
    subst e
    obtain ⟨o, e, c, d⟩ := st
    exact ⟨o, e, fun v z => by rw [d] at z; cases z⟩
  keep := fun i h h' st k => st.at fun o e => k it (by simp) o e
  item := by
    intro X hP hw hK hc i pins s σ H E I hf st hg
    subst hP hw hK
    obtain ⟨xs, x, hq, hx⟩ := hg
    obtain ⟨its, rv, p, hz⟩ := I.list hq
    obtain ⟨u, hu, ru⟩ := rv.get hx
    obtain ⟨f0, f1, f2, f3, f4, f5⟩ := hf it (by simp)
    refine wpAny_pyNext_list_item st p.isList (x := u) (by simpa using hu) fun h' st' sb => ?_
    have I1 : Inv X pins σ H { s with heap := h' } := I.turned (t' := s.toks) (fun b o hb e => (sb.2 b hb).trans e) f0 f1 f3 f4 f5
    obtain ⟨o, e, c, d⟩ := id st'
    exact ⟨u, rfl, go_of (s := { s with heap := h' }) e c d (by decide) ⟨x, H, I1, ru, ⟨rfl, fun ys hy => by rw [I.list_inj hy hq]; exact hx⟩, st', fun b hb => (hf b hb).1⟩⟩
  done := by
    intro X hP hw hK hc i pins s σ H E I hf st hg
    subst hP hw hK
    obtain ⟨xs, hq, hx⟩ := hg
    obtain ⟨its, rv, p, hz⟩ := I.list hq
    obtain ⟨f0, f1, f2, f3, f4, f5⟩ := hf it (by simp)
    have hl := rv.length
    exact wpAny_pyNext_list_end (I.ok.hd hc) st p.isList (by simp; omega) fun h' eb => ⟨rfl, I.turned (t' := s.toks) (fun b o hb e => eb b o hb e) f0 f1 f3 f4 f5⟩
  self := fun _ _ _ _ _ st h => wpAny_pyIter_listiter st h
theorem turn_range {P : Program} {w : World} {K : PySem.W.Frag} {tg : Expr} (it : Addr) (lo : Int) (n : Nat) : Turn P w K tg (Itr lo n) [it] it (fun i h => IsRangeIter h it (lo + (i : Nat) * 1) ((n : Int) - (i : Nat)) 1) where
  mem := by simp
  obj := fun i h st b hb => by
    have e : b = it := by simpa using hb
    subst e
    exact ⟨_, st, fun v z => by
      have z' : Data.fields _ = Data.cell v := z
      cases z'⟩
  keep := fun i h h' st k => k it (by simp) _ st
  item := by
    intro X hP hw hK hc i pins s σ H E I hf st hg
    subst hP hw hK
    obtain ⟨f0, f1, f2, f3, f4, f5⟩ := hf it (by simp)
    have W := Walks.range (prog := X.prog) (w := X.w) (I.ok.hd hc) it lo 1 n
    refine W.item i s _ _ hg st fun v h' tk hv st' kk => ?_
    obtain ⟨t, rfl⟩ := hv
    have I1 : Inv X pins σ H { s with heap := h', toks := tk } := I.turned (fun b o hb e => kk b o (by simpa using hb) e) f0 f1 f3 f4 f5
    refine ⟨_, rfl, go_of (s := { s with heap := h', toks := tk }) (n := "range_iterator") st' rfl rfl (by decide) ⟨.int (lo + i), H, I1, ⟨t, ?_⟩, ⟨rfl, rfl⟩, st', fun b hb => (hf b hb).1⟩⟩
    rw [Int.mul_one]
  done := by
    intro X hP hw hK hc i pins s σ H E I hf st hg
    subst hP hw hK
    obtain ⟨f0, f1, f2, f3, f4, f5⟩ := hf it (by simp)
    exact wpAny_pyNext_range_end (I.ok.hd hc) st (by have : n ≤ i := hg; omega) fun h' eb => ⟨rfl, I.turned (t' := s.toks) (fun b o hb e => eb b o hb e) f0 f1 f3 f4 f5⟩
  self := fun _ _ _ _ _ st h => wpAny_pyIter_rangeiter st h
end L2
namespace L2
open PySem PySem.Spec PyProof.Rows
section
variable {X : Cx} {tg : Expr}
inductive iList_I (K : PySem.W.Frag) (R : (It → Hp → Prop)) (x : V) (H1 : Hp) : Prop
  | mk : ∀ a, x = .ref a → (∃ xs, SqL K H1 a xs) → R (Itl K a) H1 → iList_I K R x H1
noncomputable def iList (K : PySem.W.Frag) (tl : TE) : TI := fun σ H R => tl σ H fun x H1 => iList_I K R x H1
theorem pi_list {l : Expr} {tl : TE} (hl : PE X l tl) : PI X tg l (iList X.K tl) := by
  intro pins s σ H R I h
  refine thn (hl pins s σ H _ I h) fun v s1 ⟨x, H1, I1, r1, q1⟩ => ?_
  obtain ⟨a, e, ⟨xs, hq⟩, q⟩ := q1
  subst e
  cases r1
  obtain ⟨its, rv, p, hz⟩ := I1.list hq
  refine wpAny_pyIter_list p.isList ?_
  refine ⟨s1.heap.objs.size, [s1.heap.objs.size], _, _, H1, rfl, I1.kept (t' := s1.toks) fun b o e => Heap.get?_push_of_some _ e, turn_list a _, ⟨_, Heap.get?_push_size _ rfl, rfl, rfl⟩, fun b hb => ?_, q⟩
  have e : b = s1.heap.objs.size := by simpa using hb
  subst e
  exact I1.fpOk (Nat.le_refl _) (I1.hok.fresh (Nat.le_refl _))
/- a range object just made, walked -/
theorem range_it {pins : List (Addr × Obj)} {σ : St} {H : Hp} {s : Shared} {R : It → Hp → Prop} {E : Value → Shared → Prop} {lo hi : Int} {t u v : Tok} {tk : Nat} (I : Inv X pins σ H s) (h1 : -(2 ^ 62) ≤ lo) (h2 : lo < 2 ^ 62) (h3 : -(2 ^ 62) ≤ hi) (h4 : hi < 2 ^ 62)
    (q : R (Itr lo (hi - lo).toNat) H) : wpAny (model X.prog X.w) X.A (pyIter (.ref s.heap.objs.size)) (PIE X pins σ tg R) E { s with heap := s.heap.push { cls := .type "range", data := .fields #[.int lo t, .int hi u, .int 1 v] }, toks := tk } := by
  refine wpAny_pyIter_range (IsRange.new ..) (small_one h1 h2 h3 h4) ?_
  have I1 : Inv X pins σ H { s with heap := s.heap.push { cls := .type "range", data := .fields #[.int lo t, .int hi u, .int 1 v] }, toks := tk } := I.kept fun b o e => Heap.get?_push_of_some _ e
  refine ⟨(s.heap.push { cls := .type "range", data := .fields #[.int lo t, .int hi u, .int 1 v] }).objs.size, [(s.heap.push { cls := .type "range", data := .fields #[.int lo t, .int hi u, .int 1 v] }).objs.size], _, _, H, rfl,
    I1.kept (t' := tk) fun b o e => Heap.get?_push_of_some _ e, turn_range _ lo (hi - lo).toNat, ?_, fun b hb => ?_, q⟩
  · have e1 : lo + ((0 : Nat) : Int) * 1 = lo := by simp
    have e2 : (((hi - lo).toNat : Nat) : Int) - ((0 : Nat) : Int) = Builtin.Range.rangeSize lo hi 1 := by rw [rangeSize_one]; split <;> omega
    show IsRangeIter _ _ (lo + ((0 : Nat) : Int) * 1) ((((hi - lo).toNat : Nat) : Int) - ((0 : Nat) : Int)) 1
    rw [e1, e2]
    exact Heap.get?_push_size _ rfl
  · have e : b = (s.heap.push { cls := .type "range", data := .fields #[.int lo t, .int hi u, .int 1 v] }).objs.size := by simpa using hb
    subst e
    exact I1.fpOk (Nat.le_refl _) (I1.hok.fresh (Nat.le_refl _))
inductive iRng1_I (R : (It → Hp → Prop)) (vs : List V) (H1 : Hp) : Prop
  | mk : ∀ j : Int, vs = [.int j] → -(2 ^ 62) ≤ j → j < 2 ^ 62 → R (Itr 0 j.toNat) H1 → iRng1_I R vs H1
noncomputable def iRng1 (ta : TA) : TI := fun σ H R => ta σ H fun vs H1 => iRng1_I R vs H1
theorem pi_range1 {a : Expr} {ta : TA} {p pos : Pos} (hg : Gl X "range") (hm : X.mg "range" = none) (ha : PA X [a] ta) (hs : starEach [a] X.env = [(false, eval a X.env)] := by rfl) : PI X tg (.Call (.Name "range" p) [a] [] pos) (iRng1 ta) := by
  intro pins s σ H R I h
  refine Call_ (ld_blt I hg hm boot_range (PyProof.Rows.callWith_type1 (thn (ha pos pins s σ H _ I h) fun us s1 ⟨vs, H1, I1, r1, q1⟩ => ?_) hs rfl))
  obtain ⟨j, e, q1, q2, q⟩ := q1
  subst e
  cases r1 with
  | cons r rr =>
    cases rr
    obtain ⟨t, rfl⟩ := r
    exact call_range_1 (range_it I1 (by omega) (by omega) q1 q2 (by simpa using q))
/- W: the invariant by the turn and a measure; N: what the body is to reach -/
inductive tFor_I (g : TG) (tb : TS) (D : Ends) (σ : St) (J : It) (H1 : Hp) : Prop
  | mk : ∀ W : Nat → Nat → St → Hp → Prop, (∃ m, W 0 m σ H1) → (∀ i m σ H, W i m σ H → (J.stop i H ∧ D.nx σ H) ∨ (J.go i H ∧ ∃ N : St → Hp → Prop, (∀ σ' H', N σ' H' → ∃ m', m' < m ∧ W (i + 1) m' σ' H') ∧ ∀ x H', J.yld i H x H' → g x σ H' fun σ2 H2 => tb { D with nx := N, ct := N, bk := D.nx } σ2 H2)) → tFor_I g tb D σ J H1
noncomputable def tFor (wi : TI) (g : TG) (tb : TS) : TS := fun D σ H => wi σ H fun J H1 => tFor_I g tb D σ J H1
/- the records at fp as they stand -/
noncomputable def pinsAt (fp : List Addr) (h : Heap) : List (Addr × Obj) := fp.filterMap fun b => (h.get? b).map fun o => (b, o)
theorem mem_pinsAt {fp : List Addr} {h : Heap} {b : Addr} {o : Obj} (hb : b ∈ fp) (e : h.get? b = some o) : (b, o) ∈ pinsAt fp h := List.mem_filterMap.mpr ⟨b, hb, by rw [e]; rfl⟩
theorem of_pinsAt {fp : List Addr} {h : Heap} {p : Addr × Obj} (hp : p ∈ pinsAt fp h) : p.1 ∈ fp ∧ h.get? p.1 = some p.2 := by
  obtain ⟨b, hb, e⟩ := List.mem_filterMap.mp hp
  cases q : h.get? b with
  | none => rw [q] at e; cases e
  | some o =>
    rw [q] at e
    have e' : (b, o) = p := Option.some.inj e
    subst e'
    exact ⟨hb, q⟩
theorem Inv.pinned {pins : List (Addr × Obj)} {σ : St} {H : Hp} {s : Shared} {fp : List Addr} (I : Inv X pins σ H s) (hf : ∀ b ∈ fp, FpOk X pins H b) (ho : ∀ b ∈ fp, ∃ o, s.heap.get? b = some o ∧ ∀ v, o.data ≠ .cell v) : Inv X (pins ++ pinsAt fp s.heap) σ H s :=
  I.pins_of fun p hp => (List.mem_append.mp hp).elim (fun z => I.pin p (List.mem_append_right _ z)) fun z => by
    obtain ⟨hb, e⟩ := of_pinsAt z
    obtain ⟨f0, f1, f2, _⟩ := hf p.1 hb
    obtain ⟨o, e', d⟩ := ho p.1 hb
    rw [e] at e'; cases e'
    exact ⟨e, f0, f1, f2, d⟩
theorem Inv.unpinned {pins pl : List (Addr × Obj)} {σ : St} {H : Hp} {s : Shared} (I : Inv X (pins ++ pl) σ H s) : Inv X pins σ H s := I.pins_of fun p hp => I.pin p (List.mem_append_right _ (List.mem_append_left _ hp))
theorem ps_for {iter : Expr} {body : List Stmt} {wi : TI} {g : TG} {tb : TS} {pos : Pos} (hp : PassesOwn (model X.prog X.w) X.A X.env X.xe) (hc : X.calm = true) (hi : PI X tg iter wi) (hg : PG X tg g) (hb : PSs X body tb)
    (hs : ∀ x, foldedSetIterable iter X.env x = pure x := by intro _; rfl) : PS X (.For tg iter body [] pos) (tFor wi g tb) := by
  intro pins s σ H D I h
  refine wpAny_For (thn (hi pins s σ H _ I h) fun v s1 h1 => thn h1 fun itv s2 h2 => ?_) hs
  obtain ⟨it, fp, tn, J, H2, e, I2, T, st2, f2, W, ⟨m0, w0⟩, turn⟩ := h2
  subst e
  -- what stays true of the iterator's objects through the loop
  have stat : ∀ {H' : Hp}, (∀ b ∈ fp, H' b = none) → ∀ b ∈ fp, FpOk X pins H' b := fun hn b hb => ⟨hn b hb, (f2 b hb).2⟩
  refine codeAny_forLoop_any (fun n s' => ∃ i σ' H', Inv X pins σ' H' s' ∧ tn i s'.heap ∧ (∀ b ∈ fp, H' b = none) ∧ W i n σ' H') ?_ m0 ⟨0, σ, H2, I2, st2, fun b hb => (f2 b hb).1, w0⟩
  rintro n s3 ⟨i, σ3, H3, I3, st3, fr3, w3⟩
  rcases turn i n σ3 H3 w3 with ⟨stop, qn⟩ | ⟨go, N, hN, step⟩
  · refine wpAny_passesOwn hp (thn (T.done X rfl rfl rfl hc i pins s3 σ3 H3 X.xe I3 (stat fr3) st3 stop) fun r s4 ⟨hr, I4⟩ => ?_)
    subst hr
    exact wpAny_execs_nil ⟨σ3, H3, I4, qn⟩
  · refine wpAny_passesOwn hp (thn (T.item X rfl rfl rfl hc i pins s3 σ3 H3 X.xe I3 (stat fr3) st3 go) fun r s4 ⟨u, hr, h4⟩ => ?_)
    subst hr
    refine wpAny_passesOwn hp (thn h4 fun _ s5 ⟨x, H5, I5, r5, y5, st5, fr5⟩ => ?_)
    have I5' := I5.pinned (stat fr5) (T.obj _ _ st5)
    refine wpAny_passesOwn hp (thn (hg _ s5 σ3 H5 x u _ I5' r5 (step x H5 y5)) fun _ s6 ⟨σ6, H6, I6, q6⟩ => ?_)
    refine wpAny_passesOwn hp (thn (hb _ s6 σ6 H6 _ I6 q6) fun f s7 q7 => ?_)
    have again : ∀ {σ7 : St} {H7 : Hp}, Inv X (pins ++ pinsAt fp s5.heap) σ7 H7 s7 → N σ7 H7 → ∃ m, m < n ∧ ∃ i σ' H', Inv X pins σ' H' s7 ∧ tn i s7.heap ∧ (∀ b ∈ fp, H' b = none) ∧ W i m σ' H' := fun {σ7 H7} I7 n7 => by
      obtain ⟨m', hm, w7⟩ := hN σ7 H7 n7
      refine ⟨m', hm, i + 1, σ7, H7, I7.unpinned, T.keep _ _ _ st5 fun b hb o e => (I7.pin (b, o) (List.mem_append_right _ (List.mem_append_right _ (mem_pinsAt hb e)))).1, fun b hb => ?_, w7⟩
      obtain ⟨o, e, d⟩ := T.obj _ _ st5 b hb
      exact (I7.pin (b, o) (List.mem_append_right _ (List.mem_append_right _ (mem_pinsAt hb e)))).2.1
    cases f with
    | next => obtain ⟨σ7, H7, I7, n7⟩ := q7; exact again I7 n7
    | cont => obtain ⟨σ7, H7, I7, n7⟩ := q7; exact again I7 n7
    | brk => obtain ⟨σ7, H7, I7, q7⟩ := q7; exact ⟨σ7, H7, I7.unpinned, q7⟩
    | ret v => obtain ⟨x7, σ7, H7, I7, r7, q7⟩ := q7; exact ⟨x7, σ7, H7, I7.unpinned, r7, q7⟩
end
/- over a list that the body leaves as it is -/
theorem for_list {K : PySem.W.Frag} {a : Addr} {xs : List V} {g : TG} {tb : TS} {D : Ends} {σ : St} {H : Hp} (Pv : Nat → St → Hp → Prop) (h0 : Pv 0 σ H) (hl : ∀ i σ H, i ≤ xs.length → Pv i σ H → SqL K H a xs)
    (hs : ∀ i x σ H, xs[i]? = some x → Pv i σ H → g x σ H fun σ2 H2 => tb { D with nx := Pv (i + 1), ct := Pv (i + 1), bk := D.nx } σ2 H2) (hd : ∀ σ H, Pv xs.length σ H → D.nx σ H) :
    tFor_I g tb D σ (Itl K a) H := by
  refine ⟨fun i m σ H => m = xs.length - i ∧ i ≤ xs.length ∧ Pv i σ H, ⟨xs.length, by simp, Nat.zero_le _, h0⟩, ?_⟩
  rintro i m σ H ⟨rfl, hi, p⟩
  have q := hl i σ H hi p
  by_cases hlt : i < xs.length
  · refine .inr ⟨⟨xs, xs[i], q, by simp [hlt]⟩, Pv (i + 1), fun σ' H' p' => ⟨xs.length - (i + 1), by omega, rfl, hlt, p'⟩, fun x H' y => ?_⟩
    obtain ⟨e, y⟩ := y
    subst e
    exact hs i x σ _ (y xs q) p
  · have e : i = xs.length := by omega
    subst e
    exact .inl ⟨⟨xs, q, Nat.le_refl _⟩, hd σ H p⟩
theorem for_range {lo : Int} {n : Nat} {g : TG} {tb : TS} {D : Ends} {σ : St} {H : Hp} (Pv : Nat → St → Hp → Prop) (h0 : Pv 0 σ H)
    (hs : ∀ i σ H, i < n → Pv i σ H → g (.int (lo + i)) σ H fun σ2 H2 => tb { D with nx := Pv (i + 1), ct := Pv (i + 1), bk := D.nx } σ2 H2) (hd : ∀ σ H, Pv n σ H → D.nx σ H) :
    tFor_I g tb D σ (Itr lo n) H := by
  refine ⟨fun i m σ H => m = n - i ∧ i ≤ n ∧ Pv i σ H, ⟨n, by simp, Nat.zero_le _, h0⟩, ?_⟩
  rintro i m σ H ⟨rfl, hi, p⟩
  by_cases hlt : i < n
  · refine .inr ⟨hlt, Pv (i + 1), fun σ' H' p' => ⟨n - (i + 1), by omega, rfl, hlt, p'⟩, fun x H' y => ?_⟩
    obtain ⟨e, y⟩ := y
    subst e y
    exact hs i σ _ hlt p
  · have e : i = n := by omega
    subst e
    exact .inl ⟨Nat.le_refl _, hd σ H p⟩
end L2
namespace L2
open PySem PySem.Spec PyProof.Rows
noncomputable abbrev R2 := V → V → Hp → VK → Prop
/- a two-place operation on values: f is binaryOp op, inplaceOp op or compareOp op -/
noncomputable def OpR (X : Cx) (f : Value → Value → Sem Value) (r : R2) : Prop :=
  ∀ (pins : List (Addr × Obj)) (s : Shared) (σ : St) (H : Hp) (x y : V) (v u : Value) (Q : VK), Inv X pins σ H s → RelV x v → RelV y u → r x y H Q →
    wpAny (model X.prog X.w) X.A (f v u) (EP X pins σ Q) X.xe s
/- a call of a value that is known (a builtin, a type) with values -/
noncomputable def CallR (X : Cx) (f : Value) (r : List V → Hp → VK → Prop) : Prop :=
  ∀ (pins : List (Addr × Obj)) (s : Shared) (σ : St) (H : Hp) (xs : List V) (us : List Value) (Q : VK), Inv X pins σ H s → Vals xs us → r xs H Q →
    wpAny (model X.prog X.w) X.A (call f us) (EP X pins σ Q) X.xe s
/- a value's truth -/
noncomputable def TruR (X : Cx) (r : V → Hp → (Bool → Hp → Prop) → Prop) : Prop :=
  ∀ (pins : List (Addr × Obj)) (s : Shared) (σ : St) (H : Hp) (x : V) (v : Value) (Q : Bool → Hp → Prop), Inv X pins σ H s → RelV x v → r x H Q →
    wpAny (model X.prog X.w) X.A (truthy v) (TP X pins σ Q) X.xe s
noncomputable def tOp (r : R2) (ta tb : TE) : TE := fun σ H Q => ta σ H fun x H1 => tb σ H1 fun y H2 => r x y H2 Q
/- ints in, under C, and a value out -/
inductive rI_I (C : Int → Int → Prop) (g : Int → Int → V) (x : V) (y : V) (H : Hp) (Q : VK) : Prop
  | mk : ∀ i j, x = .int i → y = .int j → C i j → Q (g i j) H → rI_I C g x y H Q
noncomputable def rI (C : Int → Int → Prop) (g : Int → Int → V) : R2 := fun x y H Q => rI_I C g x y H Q
inductive rI0_I (g : Int → Int → V) (x : V) (y : V) (H : Hp) (Q : VK) : Prop
  | mk : ∀ i j, x = .int i → y = .int j → Q (g i j) H → rI0_I g x y H Q
noncomputable def rI0 (g : Int → Int → V) : R2 := fun x y H Q => rI0_I g x y H Q
section
variable {X : Cx} {a b c : Expr} {ta tb tc : TE} {pos : Pos}
theorem binT (ha : PE X a ta) (hb : PE X b tb) {pins : List (Addr × Obj)} {s : Shared} {σ : St} {H : Hp} {R : V → V → Hp → Prop} (I : Inv X pins σ H s)
    (h : ta σ H fun x H1 => tb σ H1 fun y H2 => R x y H2) {Q : Value → Shared → Prop} {f : Value → Value → Sem Value}
    (hf : ∀ v u s2 x y H2, Inv X pins σ H2 s2 → RelV x v → RelV y u → R x y H2 → wpAny (model X.prog X.w) X.A (f v u) Q X.xe s2) :
    wpAny (model X.prog X.w) X.A (eval a X.env) (fun v s₁ => wpAny (model X.prog X.w) X.A (eval b X.env) (fun u s₂ => wpAny (model X.prog X.w) X.A (f v u) Q X.xe s₂) X.xe s₁) X.xe s := by
  refine thn (ha pins s σ H _ I h) fun v s1 ⟨x, H1, I1, r1, q1⟩ => ?_
  refine thn (hb pins s1 σ H1 _ I1 q1) fun u s2 ⟨y, H2, I2, r2, q2⟩ => ?_
  exact hf v u s2 x y H2 I2 r1 r2 q2
theorem pe_op {op : Operator} {r : R2} (ho : OpR X (binaryOp op) r) (ha : PE X a ta) (hb : PE X b tb) : PE X (.BinOp a op b pos) (tOp r ta tb) := by
  intro pins s σ H Q I h
  exact wpAny_BinOp (binT ha hb I h fun v u s2 x y H2 I2 rx ry q => ho pins s2 σ H2 x y v u Q I2 rx ry q)
theorem opI {f : Value → Value → Sem Value} {C : Int → Int → Prop} {g : Int → Int → Int}
    (rule : ∀ (i j : Int) (t u : Tok) (s : Shared) (Q : Value → Shared → Prop) (E : Value → Shared → Prop), C i j → Q (.int (g i j) s.toks) { s with toks := s.toks + 1 } → wpAny (model X.prog X.w) X.A (f (.int i t) (.int j u)) Q E s) :
    OpR X f (rI C fun i j => .int (g i j)) := by
  intro pins s σ H x y v u Q I rx ry h
  obtain ⟨i, j, rfl, rfl, hc, q⟩ := h
  obtain ⟨t, rfl⟩ := rx
  obtain ⟨t', rfl⟩ := ry
  exact rule i j t t' s _ _ hc ⟨.int (g i j), H, I.tok _, ⟨_, rfl⟩, q⟩
theorem opI0 {f : Value → Value → Sem Value} {g : Int → Int → Int}
    (rule : ∀ (i j : Int) (t u : Tok) (s : Shared) (Q : Value → Shared → Prop) (E : Value → Shared → Prop), Q (.int (g i j) s.toks) { s with toks := s.toks + 1 } → wpAny (model X.prog X.w) X.A (f (.int i t) (.int j u)) Q E s) :
    OpR X f (rI0 fun i j => .int (g i j)) := by
  intro pins s σ H x y v u Q I rx ry h
  obtain ⟨i, j, rfl, rfl, q⟩ := h
  obtain ⟨t, rfl⟩ := rx
  obtain ⟨t', rfl⟩ := ry
  exact rule i j t t' s _ _ ⟨.int (g i j), H, I.tok _, ⟨_, rfl⟩, q⟩
theorem opB0 {f : Value → Value → Sem Value} {g : Int → Int → Bool}
    (rule : ∀ (i j : Int) (t u : Tok) (s : Shared) (Q : Value → Shared → Prop) (E : Value → Shared → Prop), Q (.bool (g i j)) s → wpAny (model X.prog X.w) X.A (f (.int i t) (.int j u)) Q E s) :
    OpR X f (rI0 fun i j => .bl (g i j)) := by
  intro pins s σ H x y v u Q I rx ry h
  obtain ⟨i, j, rfl, rfl, q⟩ := h
  obtain ⟨t, rfl⟩ := rx
  obtain ⟨t', rfl⟩ := ry
  exact rule i j t t' s _ _ ⟨.bl (g i j), H, I, rfl, q⟩
noncomputable def CDiv (i j : Int) : Prop := 0 < j ∧ j < 1073741824
noncomputable def CMul (i j : Int) : Prop := (-(2 ^ 64) < i ∧ i < 2 ^ 64) ∨ (-(2 ^ 64) < j ∧ j < 2 ^ 64)
theorem CMul.ok {i j : Int} (h : CMul i j) : IntMulOk i j := by
  rcases h with ⟨h1, h2⟩ | ⟨h1, h2⟩
  · exact .of_left (intBits_le_64 h1 h2)
  · exact .of_right (intBits_le_64 h1 h2)
theorem op_add : OpR X (binaryOp .Add) (rI0 fun i j => .int (i + j)) := opI0 fun _ _ _ _ _ _ _ q => add_int q
theorem op_sub : OpR X (binaryOp .Sub) (rI0 fun i j => .int (i - j)) := opI0 fun _ _ _ _ _ _ _ q => sub_int q
theorem op_mul : OpR X (binaryOp .Mult) (rI CMul fun i j => .int (i * j)) := opI fun _ _ _ _ _ _ _ hc q => mul_int q hc.ok
/- // by a positive divisor -/
theorem op_fdiv : OpR X (binaryOp .FloorDiv) (rI CDiv fun i j => .int (i / j)) := opI fun i j _ _ _ _ _ hc q => by
  have h1 : (0 : Int) < j := hc.1
  have h2 : j < 1073741824 := hc.2
  exact floordiv_int (by omega) (by rw [Int.fdiv_eq_ediv_of_nonneg i (by omega)]; exact q) (.inl (PyProof.noPylong_small (by omega)))
/- % by a positive divisor of any size -/
theorem op_mod : OpR X (binaryOp .Mod) (rI (fun _ j => 0 < j) fun i j => .int (i % j)) := opI fun i j _ _ _ _ _ hc q => by
  have h1 : (0 : Int) < j := hc
  exact mod_int' (by omega) (by rw [Int.fmod_eq_emod_of_nonneg i (by omega)]; exact q)
end
/- the scalars that == tells apart as data does -/
noncomputable def scal : V → V → Bool
  | .non, .non => true | .non, .int _ => true | .int _, .non => true | .non, .bl _ => true | .bl _, .non => true | .non, .str _ => true | .str _, .non => true
  | .int _, .int _ => true | .bl _, .bl _ => true | .str _, .str _ => true | .byt _, .byt _ => true
  | .int _, .str _ => true | .str _, .int _ => true | .bl _, .str _ => true | .str _, .bl _ => true
  | _, _ => false
noncomputable def rEq : R2 := fun x y H Q => scal x y = true ∧ Q (.bl (decide (x = y))) H
noncomputable def rNe : R2 := fun x y H Q => scal x y = true ∧ Q (.bl (!decide (x = y))) H
theorem dec_int {i j : Int} : decide (V.int i = V.int j) = (i == j) := by
  rw [Bool.eq_iff_iff]
  simp
theorem dec_bl {i j : Bool} : decide (V.bl i = V.bl j) = (i == j) := by
  rw [Bool.eq_iff_iff]
  simp
theorem dec_str {i j : Str} : decide (V.str i = V.str j) = (i == j) := by
  rw [Bool.eq_iff_iff]
  simp
theorem dec_byt {i j : Array UInt8} : decide (V.byt i = V.byt j) = (i.toList == j.toList) := by
  rw [Bool.eq_iff_iff]
  cases i
  cases j
  simp
section
variable {X : Cx} {a b c : Expr} {ta tb tc : TE} {pos : Pos}
theorem fin_bl {pins : List (Addr × Obj)} {σ : St} {H : Hp} {s : Shared} {Q : VK} {k k' : Bool} (I : Inv X pins σ H s) (q : Q (.bl k) H) (e : k = k') : EP X pins σ Q (.bool k') s := by
  subst e
  exact ⟨.bl k, H, I, rfl, q⟩
theorem op_eq : OpR X (compareOp .Eq) rEq := by
  intro pins s σ H x y v u Q I rx ry h
  obtain ⟨hs, q⟩ := h
  cases x with
  | non =>
    cases rx
    cases y with
    | non => cases ry; exact PySem.EqNone.eq_none_none (fin_bl I q (by simp))
    | bl j => cases ry; exact PySem.EqNone.eq_none_bool (fin_bl I q (by simp))
    | int j => obtain ⟨t', rfl⟩ := ry; exact PySem.EqNone.eq_none_int (fin_bl I q (by simp))
    | str j => obtain ⟨t', rfl⟩ := ry; exact PySem.EqNone.eq_none_str (fin_bl I q (by simp))
    | _ => exact absurd (show false = true from hs) Bool.false_ne_true
  | bl i =>
    cases rx
    cases y with
    | non => cases ry; exact PySem.EqNone.eq_bool_none (fin_bl I q (by simp))
    | bl j => cases ry; exact eq_bool (fin_bl I q dec_bl)
    | str j => obtain ⟨t', rfl⟩ := ry; exact PySem.EqMixed.eq_bool_str (fin_bl I q (by simp))
    | _ => exact absurd (show false = true from hs) Bool.false_ne_true
  | int i =>
    obtain ⟨t, rfl⟩ := rx
    cases y with
    | non => cases ry; exact PySem.EqNone.eq_int_none (fin_bl I q (by simp))
    | int j => obtain ⟨t', rfl⟩ := ry; exact eq_int (fin_bl I q dec_int)
    | str j => obtain ⟨t', rfl⟩ := ry; exact PySem.EqMixed.eq_int_str (fin_bl I q (by simp))
    | _ => exact absurd (show false = true from hs) Bool.false_ne_true
  | str i =>
    obtain ⟨t, rfl⟩ := rx
    cases y with
    | non => cases ry; exact PySem.EqNone.eq_str_none (fin_bl I q (by simp))
    | bl j => cases ry; exact PySem.EqMixed.eq_str_bool (fin_bl I q (by simp))
    | int j => obtain ⟨t', rfl⟩ := ry; exact PySem.EqMixed.eq_str_int (fin_bl I q (by simp))
    | str j => obtain ⟨t', rfl⟩ := ry; exact eq_str (fin_bl I q dec_str)
    | _ => exact absurd (show false = true from hs) Bool.false_ne_true
  | byt i =>
    obtain ⟨t, rfl⟩ := rx
    cases y with
    | byt j => obtain ⟨t', rfl⟩ := ry; exact PySem.W.eq_bytes (fin_bl I q dec_byt)
    | _ => exact absurd (show false = true from hs) Bool.false_ne_true
  | _ => cases y <;> exact absurd (show false = true from hs) Bool.false_ne_true
theorem op_ne : OpR X (compareOp .NotEq) rNe := by
  intro pins s σ H x y v u Q I rx ry h
  obtain ⟨hs, q⟩ := h
  cases x with
  | non =>
    cases rx
    cases y with
    | non => cases ry; exact PySem.EqNone.ne_none_none (fin_bl I q (by simp))
    | bl j => cases ry; exact PySem.EqNone.ne_none_bool (fin_bl I q (by simp))
    | int j => obtain ⟨t', rfl⟩ := ry; exact PySem.EqNone.ne_none_int (fin_bl I q (by simp))
    | str j => obtain ⟨t', rfl⟩ := ry; exact PySem.EqNone.ne_none_str (fin_bl I q (by simp))
    | _ => exact absurd (show false = true from hs) Bool.false_ne_true
  | bl i =>
    cases rx
    cases y with
    | non => cases ry; exact PySem.EqNone.ne_bool_none (fin_bl I q (by simp))
    | bl j => cases ry; exact ne_bool (fin_bl I q (congrArg not dec_bl))
    | str j => obtain ⟨t', rfl⟩ := ry; exact PySem.EqMixed.ne_bool_str (fin_bl I q (by simp))
    | _ => exact absurd (show false = true from hs) Bool.false_ne_true
  | int i =>
    obtain ⟨t, rfl⟩ := rx
    cases y with
    | non => cases ry; exact PySem.EqNone.ne_int_none (fin_bl I q (by simp))
    | int j => obtain ⟨t', rfl⟩ := ry; exact ne_int (fin_bl I q (congrArg not dec_int))
    | str j => obtain ⟨t', rfl⟩ := ry; exact PySem.EqMixed.ne_int_str (fin_bl I q (by simp))
    | _ => exact absurd (show false = true from hs) Bool.false_ne_true
  | str i =>
    obtain ⟨t, rfl⟩ := rx
    cases y with
    | non => cases ry; exact PySem.EqNone.ne_str_none (fin_bl I q (by simp))
    | bl j => cases ry; exact PySem.EqMixed.ne_str_bool (fin_bl I q (by simp))
    | int j => obtain ⟨t', rfl⟩ := ry; exact PySem.EqMixed.ne_str_int (fin_bl I q (by simp))
    | str j => obtain ⟨t', rfl⟩ := ry; exact ne_str (fin_bl I q (congrArg not dec_str))
    | _ => exact absurd (show false = true from hs) Bool.false_ne_true
  | byt i =>
    obtain ⟨t, rfl⟩ := rx
    cases y with
    | byt j => obtain ⟨t', rfl⟩ := ry; exact PySem.W.ne_bytes (fin_bl I q (congrArg not dec_byt))
    | _ => exact absurd (show false = true from hs) Bool.false_ne_true
  | _ => cases y <;> exact absurd (show false = true from hs) Bool.false_ne_true
theorem op_gt : OpR X (compareOp .Gt) (rI0 fun i j => .bl (decide (j < i))) := opB0 fun _ _ _ _ _ _ _ q => gt_int q
theorem nomark (b : Expr) {op : CmpOp} (h : op ≠ .In := by decide) (h2 : op ≠ .NotIn := by decide) : behindInMarks op b = false := by
  have e1 : (op == CmpOp.In) = false := by cases op <;> first | rfl | exact absurd rfl h
  have e2 : (op == CmpOp.NotIn) = false := by cases op <;> first | rfl | exact absurd rfl h2
  cases b <;> simp [behindInMarks, e1, e2]
/- a comparison as a value; hm: nomark b, or (for in, not in) by with_unfolding_all rfl -/
theorem pe_cmpR {op : CmpOp} {r : R2} (ho : OpR X (compareOp op) r) (ha : PE X a ta) (hb : PE X b tb) (hm : behindInMarks op b = false) : PE X (.Compare a [op] [b] pos) (tOp r ta tb) := by
  intro pins s σ H Q I h
  exact wpAny_Compare1 (binT ha hb I h fun v u s2 x y H2 I2 rx ry q => ho pins s2 σ H2 x y v u Q I2 rx ry q) hm
/- a reading of a value as a test -/
inductive tTest_I (Q : (Bool → Hp → Prop)) (x : V) (H' : Hp) : Prop
  | mk : ∀ k, x = .bl k → Q k H' → tTest_I Q x H'
noncomputable def tTest (t : TE) : TT := fun σ H Q => t σ H fun x H' => tTest_I Q x H'
theorem pt_cmpR {op : CmpOp} {r : R2} (ho : OpR X (compareOp op) r) (ha : PE X a ta) (hb : PE X b tb) (hm : behindInMarks op b = false) : PT X (.Compare a [op] [b] pos) (tTest (tOp r ta tb)) := by
  intro pins s σ H Q I h
  refine wpAny_isTrue_Compare1 (thn (ha pins s σ H _ I h) fun v s1 ⟨x, H1, I1, r1, q1⟩ => thn (hb pins s1 σ H1 _ I1 q1) fun u s2 ⟨y, H2, I2, r2, q2⟩ =>
    thn (ho pins s2 σ H2 x y v u _ I2 r1 r2 q2) fun c s3 ⟨z, H3, I3, r3, k, e, q3⟩ => ?_) hm
  subst e
  cases r3
  exact wpAny_truthy_bool ⟨H3, I3, q3⟩
/- a value's truth by the abstract heap -/
noncomputable def TruV (K : PySem.W.Frag) (x : V) (H : Hp) (k : Bool) : Prop :=
  match x with
  | .non => k = false
  | .bl b => k = b
  | .int i => k = (i != 0)
  | .str y => y.length ≤ sizeLine ∧ k = ((y.length : Int) != 0)
  | .byt y => y.size ≤ sizeLine ∧ k = ((y.size : Int) != 0)
  | .ref p => (∃ xs, SqL K H p xs ∧ k = !xs.isEmpty) ∨ (∃ xs, SqT K H p xs ∧ k = !xs.isEmpty) ∨ ∃ kvs, H p = some (.dK kvs) ∧ k = !kvs.isEmpty
  | _ => False
theorem isEmpty_kv {κ : Type} {kvs : List (κ × V)} {vs : List (κ × Value)} (r : KV kvs vs) : (!vs.isEmpty) = !kvs.isEmpty := by
  cases r <;> rfl
theorem isEmpty_of {xs : List V} {its : List Value} (r : Vals xs its) : (!its.toArray.isEmpty) = !xs.isEmpty := by
  cases r <;> simp
theorem line63 : (sizeLine : Nat) < 2 ^ 63 := by rw [sizeLine_eq]; decide
theorem tru_ok : TruR X (fun x H Q => ∃ k, TruV X.K x H k ∧ Q k H) := by
  intro pins s σ H x v Q I rx h
  obtain ⟨k, e, q⟩ := h
  have hl := line63
  have hs : sizeLine = 16777216 := sizeLine_eq
  cases x with
  | non =>
    cases rx
    have e' : k = false := e
    subst e'
    exact truthy_none ⟨H, I, q⟩
  | bl b =>
    cases rx
    have e' : k = b := e
    subst e'
    exact wpAny_truthy_bool ⟨H, I, q⟩
  | int i =>
    obtain ⟨t, rfl⟩ := rx
    have e' : k = (i != 0) := e
    subst e'
    exact PySem.P.truthy_int ⟨H, I, q⟩
  | str y =>
    obtain ⟨t, rfl⟩ := rx
    obtain ⟨hy, e'⟩ : y.length ≤ sizeLine ∧ k = ((y.length : Int) != 0) := e
    subst e'
    exact PySem.P.truthy_str (by omega) ⟨H, I.tok _, q⟩
  | byt y =>
    obtain ⟨t, rfl⟩ := rx
    obtain ⟨hy, e'⟩ : y.size ≤ sizeLine ∧ k = ((y.size : Int) != 0) := e
    subst e'
    exact PySem.W.truthy_bytes (by omega) ⟨H, I.tok _, q⟩
  | ref p =>
    cases rx
    have e' : (∃ xs, SqL X.K H p xs ∧ k = !xs.isEmpty) ∨ (∃ xs, SqT X.K H p xs ∧ k = !xs.isEmpty) ∨ ∃ kvs, H p = some (.dK kvs) ∧ k = !kvs.isEmpty := e
    rcases e' with ⟨xs, hx, e'⟩ | ⟨xs, hx, e'⟩ | ⟨kvs, hx, e'⟩
    · subst e'
      obtain ⟨its, r, pl, hz⟩ := I.list hx
      have hlen := r.length
      exact wpAny_truthy_list pl.isList (by simp only [List.size_toArray]; omega) ⟨H, I.tok _, by rw [isEmpty_of r]; exact q⟩
    · subst e'
      obtain ⟨its, r, pl, hz⟩ := I.tuple hx
      have hlen := r.length
      exact truthy_tuple pl (by simp only [List.size_toArray]; omega) ⟨H, I.tok _, by rw [isEmpty_of r]; exact q⟩
    · subst e'
      obtain ⟨hz, hS, vs, r, m⟩ : kvs.length ≤ sizeLine ∧ (p == sysModules) = false ∧ ∃ vs, KV kvs vs ∧ s.heap.DictOf (mixKind X.prog X.w) p vs := I.hok p _ hx
      have hlen : kvs.length = vs.length := Paired.length r
      exact wpAny_truthy_dict hS m (by omega) ⟨H, I.tok _, by rw [isEmpty_kv r]; exact q⟩
  | _ => exact (show False from e).elim
/- any expression whose test is its value's truth (a name, a call, a subscript, a field ..: he by fun _ => rfl) -/
theorem pt_truth (ha : PE X a ta) (he : ∀ whole, isTrue a X.env whole = (do let v ← whole; standAt a.pos; holding [v] (truthy v))) :
    PT X a (fun σ H Q => ta σ H fun x H' => ∃ k, TruV X.K x H' k ∧ Q k H') := by
  intro pins s σ H Q I h
  exact isTrue_plain (thn (ha pins s σ H _ I h) fun v s1 ⟨x, H1, I1, r1, q1⟩ => tru_ok pins s1 σ H1 x v Q I1 r1 q1) (he _)
theorem op_add_str : OpR X (binaryOp .Add) (fun x y H Q => ∃ i j, x = .str i ∧ y = .str j ∧ i.length + j.length ≤ sizeLine ∧ Q (.str (i ++ j)) H) := by
  intro pins s σ H x y v u Q I rx ry h
  obtain ⟨i, j, rfl, rfl, hz, q⟩ := h
  obtain ⟨t, rfl⟩ := rx
  obtain ⟨t', rfl⟩ := ry
  exact add_str (fun t' tk => ⟨.str (i ++ j), H, I.tok _, ⟨_, rfl⟩, q⟩) hz
theorem vals1 {x : V} {us : List Value} (r : Vals [x] us) : ∃ u, us = [u] ∧ RelV x u := by
  cases r with
  | cons r1 r2 => cases r2; exact ⟨_, rfl, r1⟩
theorem vals2 {x y : V} {us : List Value} (r : Vals [x, y] us) : ∃ u w', us = [u, w'] ∧ RelV x u ∧ RelV y w' := by
  cases r with
  | cons r1 r2 =>
    cases r2 with
    | cons r3 r4 => cases r4; exact ⟨_, _, rfl, r1, r3⟩
theorem call_int1 : CallR X (.type "int") (fun xs H Q => (∃ i, xs = [.int i] ∧ Q (.int i) H) ∨ ∃ k, xs = [.bl k] ∧ Q (.int (if k then 1 else 0)) H) := by
  intro pins s σ H xs us Q I r h
  rcases h with ⟨i, rfl, q⟩ | ⟨k, rfl, q⟩
  · obtain ⟨u, rfl, t, rfl⟩ := vals1 r
    exact call_int_int ⟨.int i, H, I, ⟨_, rfl⟩, q⟩
  · obtain ⟨u, rfl, r1⟩ := vals1 r
    cases r1
    exact call_int_bool ⟨.int (if k then 1 else 0), H, I.tok _, ⟨_, rfl⟩, q⟩
end
end L2
namespace L2
open PySem PySem.Spec PyProof.Rows
structure ObjM (h : Heap) (x dx C : Addr) (mA : Str → Option Value) : Prop where
  obj : h.get? x = some (PySem.W.instObj C dx)
  ns : h.Ns1 dx mA
  ne : dx ≠ x
theorem lookIn_ns {h : Heap} {dx : Addr} {mA : Str → Option Value} (n : h.Ns1 dx mA) : ∃ od, h.get? dx = some od ∧ ∀ name, PySem.W.lookIn name od = some (mA name) := by
  obtain ⟨o, es, ep, ho, hd, hk, _, hm⟩ := n
  refine ⟨o, ho, fun name => ?_⟩
  have e := hm name
  unfold nsFind findBy at e
  rw [← Array.find?_toList] at e
  unfold PySem.W.lookIn
  rw [hd]
  dsimp only
  split
  · rename_i y q
    rw [q] at e
    exact congrArg some e
  · rename_i q
    rw [q] at e
    have a : es.toList.any (·.refKey) = false := by
      rw [List.any_eq_false]
      intro y hy
      obtain ⟨z, t, hkey⟩ := hk y (Array.mem_toList_iff.mp hy)
      simp [DictEntry.refKey, hkey]
    have a' : ¬ es.toList.any (·.refKey) = true := by rw [a]; exact Bool.false_ne_true
    rw [if_neg a']
    exact congrArg some e
theorem ObjM.look {h : Heap} {x dx C : Addr} {mA : Str → Option Value} (I : ObjM h x dx C mA) : ∃ od, PySem.W.InstAt h x (PySem.W.instObj C dx) C (some od) ∧ ∀ name, PySem.W.lookIn name od = some (mA name) :=
  let ⟨od, ho, hl⟩ := lookIn_ns I.ns
  ⟨od, ⟨I.obj, rfl, rfl, ho⟩, hl⟩
section
variable {prog : Program} {w : World} {A : Around} {E : Value → Shared → Prop} {s : Shared} {K : PySem.W.Frag} {x dx C f : Addr} {mA : Str → Option Value} {name : Str} {v : Value}
theorem get_map {expr : Bool} {Q : Value → Shared → Prop} (X : K.In s.heap) (I : ObjM s.heap x dx C mA) (hg : PySem.W.plainGet K C name = true) (hh : PySem.W.hasDictIn K C = true)
    (ha : PySem.W.findIn K (.ref C) name = some none) (hv : mA name = some v) (hv' : PySem.W.handedIn v = true) (h : Q v { s with toks := s.toks + 1 }) :
    wpAny (model prog w) A (getAttr (.ref x) name expr) Q E s := by
  obtain ⟨od, J, hl⟩ := I.look
  exact PySem.W.get_value X J (PySem.W.plainGet_of hg).1 (PySem.W.findObj_own hh ha rfl (by rw [hl, hv])) hv' h
theorem get_meth {pl : Sem Bool} {Q : Value × List Value → Shared → Prop} (X : K.In s.heap) (I : ObjM s.heap x dx C mA) (hg : PySem.W.plainGet K C name = true)
    (hf : PySem.W.findIn K (.ref C) name = some (some (.ref f))) (ht : PySem.W.isFn K (.ref f) = true) (hv : mA name = none) (h : Q (.ref f, [.ref x]) s) :
    wpAny (model prog w) A (getMethod (.ref x) name pl) Q E s := by
  obtain ⟨od, J, hl⟩ := I.look
  exact PySem.W.method_fn X J (PySem.W.plainGet_of hg).1 (PySem.W.plainGet_of hg).2 hf (beq_iff_eq.mp ht) (by show (PySem.W.lookIn name od).map (·.isSome) = some false; rw [hl, hv]; rfl) h
theorem set_map {ns : List Str} {Q : Unit → Shared → Prop} (X : K.In s.heap) (I : ObjM s.heap x dx C mA)
    (hs : PySem.W.findIn K (.ref C) "__setattr__" = some (some (.builtin "object.__setattr__"))) (hp : PySem.W.plainOver K C = true) (ht : PySem.W.takerIn K C name = some none) (hh : PySem.W.hasDictIn K C = true)
    (hw : PySem.Within mA ns) (hsz : ns.length ≤ sizeLine)
    (h : ∀ h', ObjM h' x dx C (fun y => if y = name then some v else mA y) → Heap.SameBut dx s.heap h' → Q () { s with heap := h', toks := s.toks + 2 }) :
    wpAny (model prog w) A (setAttr (.ref x) name v) Q E s := by
  obtain ⟨od, J, hl⟩ := I.look
  refine PySem.W.set_plain X J hs (PySem.W.osa_open (s := { s with toks := s.toks + 1 }) (r := none) X J hp ht fun b => ?_)
  obtain ⟨cd, hc, hd'⟩ := PySem.W.any_some hh
  have hx : s.heap.get? x = some ⟨.ref C, some dx, .plain, #[]⟩ := I.obj
  refine wpAny_bind (wpAny_pure (wpAny_bind (wpAny_bind (wpAny_loadPart hx (wpAny_bind (PySem.W.Looks.here (s := { s with toks := s.toks + 1 }) (PySem.W.looks_clsIn X hc) ?_))))))
  rw [hd']
  refine wpAny_pure (a := some dx) (wpAny_bind (wpAny_pure (wpAny_bind ?_)))
  refine wpAny_nsSet1 (s := { s with toks := s.toks + 1 }) I.ns fun h' hn2 hs2 => ?_
  obtain ⟨oD, esD, epD, hoD, hdD, hcD⟩ := hn2.count (PySem.Within.cons name v hw)
  refine wpAny_bind (wpAny_lookBehind hoD (by rw [hdD]; exact pastItsLine_dict (Nat.le_trans hcD (by rw [List.length_cons]; omega))) ?_)
  exact wpAny_pure (h _ ⟨(hs2.2 _ (Ne.symm I.ne)).trans I.obj, hn2, I.ne⟩ hs2)
/- C(..): the dict at the heap's end, the instance behind it; then its __init__ -/
theorem make_map {R : Result → Shared → Prop} {vs : List Value} {kw : List (Str × Value)} (X : K.In s.heap) (hm : PySem.W.makesIn K C = true)
    (hi : PySem.W.findIn K (.ref C) "__init__" = some (some (.ref f))) (hf : PySem.W.typeIn K (.ref f) = some (.type "function"))
    (h : codeAny (model prog w) (A.under (.builtin "type.__call__" ⟨.ref C :: vs, kw⟩)) (.call (.ref f) ⟨.ref (s.heap.objs.size + 1) :: vs, kw⟩) (PySem.W.InitBack (s.heap.objs.size + 1) R)
      { s with heap := (s.heap.push PySem.W.emptyDict).push (PySem.W.instObj C s.heap.objs.size) }) :
    codeAny (model prog w) A (.call (.ref C) ⟨vs, kw⟩) R s := by
  obtain ⟨hh, g, d, t, os⟩ := s
  exact PySem.W.make_core (PySem.W.makes_of X hm) (PySem.W.looks_findIn X hi) (fun self => PySem.W.bind_fn X self hf) (.inl rfl) h
end
noncomputable def putF (f : Str) (v : V) : List (Str × V) → List (Str × V)
  | [] => [(f, v)]
  | (g, x) :: r => if g = f then (g, v) :: r else (g, x) :: putF f v r
theorem lookup_putF (f g : Str) (v : V) : ∀ fs : List (Str × V), (putF f v fs).lookup g = if g = f then some v else fs.lookup g
  | [] => by
    show List.lookup g [(f, v)] = _
    by_cases h : g = f
    · have hb : (g == f) = true := beq_iff_eq.mpr h
      simp only [List.lookup, hb, if_pos h]
    · have hb : (g == f) = false := beq_eq_false_iff_ne.mpr h
      simp only [List.lookup, hb, if_neg h]
  | (k, x) :: r => by
    have ih := lookup_putF f g v r
    rw [show putF f v ((k, x) :: r) = (if k = f then (k, v) :: r else (k, x) :: putF f v r) from rfl]
    by_cases hk : k = f
    · rw [if_pos hk]
      by_cases h : g = k
      · have hb : (g == k) = true := beq_iff_eq.mpr h
        simp only [List.lookup, hb, if_pos (h.trans hk)]
      · have hb : (g == k) = false := beq_eq_false_iff_ne.mpr h
        simp only [List.lookup, hb, if_neg (fun e : g = f => h (e.trans hk.symm))]
    · rw [if_neg hk]
      by_cases h : g = k
      · have hb : (g == k) = true := beq_iff_eq.mpr h
        simp only [List.lookup, hb, if_neg (fun e : g = f => hk (h.symm.trans e))]
      · have hb : (g == k) = false := beq_eq_false_iff_ne.mpr h
        simp only [List.lookup, hb]
        exact ih
theorem keys_putF (f : Str) (v : V) : ∀ fs : List (Str × V), f ∈ (putF f v fs).map (·.1) ∧ ∀ g, g ∈ fs.map (·.1) → g ∈ (putF f v fs).map (·.1)
  | [] => ⟨by simp [putF], fun g h => by simp at h⟩
  | (k, x) :: r => by
    obtain ⟨i1, i2⟩ := keys_putF f v r
    rw [show putF f v ((k, x) :: r) = (if k = f then (k, v) :: r else (k, x) :: putF f v r) from rfl]
    by_cases hk : k = f
    · rw [if_pos hk]
      subst hk
      exact ⟨by simp, fun g h => by simpa using h⟩
    · rw [if_neg hk]
      refine ⟨?_, fun g h => ?_⟩
      · rw [List.map_cons]
        exact List.mem_cons_of_mem _ i1
      · rw [List.map_cons] at h ⊢
        rcases List.mem_cons.mp h with e | e
        · exact List.mem_cons.mpr (.inl e)
        · exact List.mem_cons_of_mem _ (i2 g e)
theorem length_putF (f : Str) (v : V) : ∀ fs : List (Str × V), (putF f v fs).length ≤ fs.length + 1
  | [] => by simp [putF]
  | (k, x) :: r => by
    have ih := length_putF f v r
    rw [show putF f v ((k, x) :: r) = (if k = f then (k, v) :: r else (k, x) :: putF f v r) from rfl]
    by_cases hk : k = f
    · rw [if_pos hk, List.length_cons, List.length_cons]; omega
    · rw [if_neg hk, List.length_cons, List.length_cons]; omega
theorem RelO.some_of {v : V} {o : Option Value} (r : RelO (some v) o) : ∃ u, o = some u ∧ RelV v u := by
  cases o with
  | none => exact (show False from r).elim
  | some u => exact ⟨u, rfl, r⟩
theorem RelO.none_of {o : Option Value} (r : RelO none o) : o = none := by
  cases o with
  | none => rfl
  | some u => exact (show False from r).elim
theorem handed_of {v : V} {u : Value} (r : RelV v u) : PySem.W.handedIn u = true := by
  cases v with
  | non => cases (show u = Value.none from r); rfl
  | bl b => cases (show u = Value.bool b from r); rfl
  | int i => obtain ⟨t, e⟩ := (show ∃ t, u = Value.int i t from r); cases e; rfl
  | str x => obtain ⟨t, e⟩ := (show ∃ t, u = Value.str x t from r); cases e; rfl
  | byt b => obtain ⟨t, e⟩ := (show ∃ t, u = Value.bytes b t from r); cases e; rfl
  | flt b => obtain ⟨t, e⟩ := (show ∃ t, u = Value.float b t from r); cases e; rfl
  | ref a => cases (show u = Value.ref a from r); rfl
  | ty n => cases (show u = Value.type n from r); rfl
section
variable {P : Program} {w : World} {H H' : Hp} {h h' : Heap} {a C dx : Addr} {fs fs' : List (Str × V)}
theorem ins_get (hok : HOk P w H h) (e : H a = some (.ins C dx fs)) : ∃ mA, ObjM h a dx C mA ∧ (∀ f, RelO (fs.lookup f) (mA f)) ∧ PySem.Within mA (fs.map (·.1)) ∧ fs.length ≤ 1000 ∧ H dx = some (.own a) := by
  obtain ⟨d, z, ne, ob, mA, n, r, q⟩ := (show ObjOk P w H h a (.ins C dx fs) from hok a _ e)
  exact ⟨mA, ⟨ob, n, ne⟩, r, q, z, d⟩
end
structure Cls (K : PySem.W.Frag) (C : Addr) : Prop where
  pg : PySem.W.plainGet K C Str.empty = true
  hd : PySem.W.hasDictIn K C = true
  po : PySem.W.plainOver K C = true
  sa : PySem.W.findIn K (.ref C) "__setattr__" = some (some (.builtin "object.__setattr__"))
theorem Cls.get {K : PySem.W.Frag} {C : Addr} (c : Cls K C) (f : Str) : PySem.W.plainGet K C f = true := c.pg
/- no class of it has the name -/
noncomputable def NoAttr (K : PySem.W.Frag) (C : Addr) (f : Str) : Prop := PySem.W.findIn K (.ref C) f = some none
theorem NoAttr.taker {K : PySem.W.Frag} {C : Addr} {f : Str} (n : NoAttr K C f) : PySem.W.takerIn K C f = some none := by
  unfold PySem.W.takerIn
  rw [show PySem.W.findIn K (.ref C) f = some none from n]
  rfl
/- a method: a plain def of the class or of one above it -/
structure Meth (K : PySem.W.Frag) (C : Addr) (m : Str) (f : Addr) : Prop where
  at_ : PySem.W.findIn K (.ref C) m = some (some (.ref f))
  fn : PySem.W.isFn K (.ref f) = true
  kp : PySem.W.keepIn K (.ref f) = true
section
variable {X : Cx} {pins : List (Addr × Obj)} {σ : St} {H : Hp} {s : Shared} {a C dx : Addr} {fs : List (Str × V)} {f : Str} {v : V} {A : Around} {E : Value → Shared → Prop}
theorem getattr_ok {b : Bool} {Q : Value → Shared → Prop} (I : Inv X pins σ H s) (e : H a = some (.ins C dx fs)) (c : Cls X.K C) (n : NoAttr X.K C f) (l : fs.lookup f = some v)
    (h : ∀ u s', Inv X pins σ H s' → RelV v u → Q u s') : wpAny (model X.prog X.w) A (getAttr (.ref a) f b) Q E s := by
  obtain ⟨mA, O, r, _, _, _⟩ := ins_get I.hok e
  obtain ⟨u, hu, ru⟩ := RelO.some_of (v := v) (o := mA f) (by rw [← l]; exact r f)
  exact get_map I.kIn O (c.get f) c.hd n hu (handed_of ru) (h u _ (I.tok _) ru)
theorem getmeth_ok {m : Str} {g : Addr} {pl : Sem Bool} {Q : Value × List Value → Shared → Prop} (I : Inv X pins σ H s) (e : H a = some (.ins C dx fs)) (c : Cls X.K C) (k : Meth X.K C m g) (l : fs.lookup m = none)
    (h : Q (.ref g, [.ref a]) s) : wpAny (model X.prog X.w) A (getMethod (.ref a) m pl) Q E s := by
  obtain ⟨mA, O, r, _, _, _⟩ := ins_get I.hok e
  have hn : mA m = none := RelO.none_of (by rw [← l]; exact r m)
  exact get_meth I.kIn O (c.get m) k.at_ k.fn hn h
theorem setattr_ok {y : V} {u : Value} {Q : Unit → Shared → Prop} (I : Inv X pins σ H s) (e : H a = some (.ins C dx fs)) (c : Cls X.K C) (n : NoAttr X.K C f) (hl : fs.length < 1000) (ry : RelV y u)
    (h : ∀ s', Inv X pins σ (upd H a (.ins C dx (putF f y fs))) s' → Q () s') : wpAny (model X.prog X.w) A (setAttr (.ref a) f u) Q E s := by
  obtain ⟨mA, O, r, wi, _, ho⟩ := ins_get I.hok e
  have hz : (fs.map (·.1)).length ≤ sizeLine := by rw [List.length_map, sizeLine_eq]; omega
  refine set_map I.kIn O c.sa c.po n.taker c.hd wi hz fun h' O' sb => h _ ?_
  have hd : ∃ o, h'.get? dx = some o := let ⟨o, _, _, e', _⟩ := O'.ns; ⟨o, e'⟩
  refine I.write (x := a) (e := dx) (by rw [e]; exact True.intro) (.inr ho) (fun b q hb z => (sb.2 b hb).trans z) hd ?_
  refine ⟨by rw [upd_ne O.ne]; exact ho, ?_, O.ne, O'.obj, _, O'.ns, fun g => ?_, fun g hg => ?_⟩
  · have := length_putF f y fs; omega
  · show RelO ((putF f y fs).lookup g) (if g = f then some u else mA g)
    rw [lookup_putF]
    by_cases q : g = f
    · rw [if_pos q, if_pos q]; exact ry
    · rw [if_neg q, if_neg q]; exact r g
  · by_cases q : g = f
    · rw [q]; exact (keys_putF f y fs).1
    · refine (keys_putF f y fs).2 g (wi g fun z => hg ?_)
      show (if g = f then some u else mA g) = none
      rw [if_neg q]; exact z
/- a new instance, tracked, without attributes -/
theorem Inv.made (I : Inv X pins σ H s) : Inv X pins σ (upd (upd H s.heap.objs.size (.own (s.heap.objs.size + 1))) (s.heap.objs.size + 1) (.ins C s.heap.objs.size []))
    { s with heap := (s.heap.push PySem.W.emptyDict).push (PySem.W.instObj C s.heap.objs.size) } := by
  have e1 : (s.heap.push PySem.W.emptyDict).get? s.heap.objs.size = some PySem.W.emptyDict := Heap.get?_push_size s.heap rfl
  have e2 : ((s.heap.push PySem.W.emptyDict).push (PySem.W.instObj C s.heap.objs.size)).get? (s.heap.objs.size + 1) = some (PySem.W.instObj C s.heap.objs.size) := by
    have := Heap.get?_push_size (s.heap.push PySem.W.emptyDict) (o := PySem.W.instObj C s.heap.objs.size) rfl
    rwa [Heap.size_push] at this
  have e3 : (s.heap.push PySem.W.emptyDict).Ns s.heap.objs.size (fun _ => none) := ⟨PySem.W.emptyDict, #[], _, e1, rfl, (fun e he => absurd he (by simp)), fun _ => rfl⟩
  have I1 := I.laid (a := s.heap.objs.size) (o := .own (s.heap.objs.size + 1)) (h' := s.heap.push PySem.W.emptyDict) (t' := s.toks) (fun b u q => Heap.get?_push_of_some _ q) (Nat.le_refl _) ⟨_, e1⟩
  refine I1.laid (a := s.heap.objs.size + 1) (o := .ins C s.heap.objs.size []) (t' := s.toks) (fun b u q => Heap.get?_push_of_some _ q) (Nat.le_of_eq (Heap.size_push _ _)) ?_
  have ne : s.heap.objs.size ≠ s.heap.objs.size + 1 := Nat.ne_of_lt (Nat.lt_succ_self _)
  refine ⟨by rw [upd_ne ne, upd_same], Nat.zero_le _, ne, e2, fun _ => none, (Heap.Ns1.of_empty e3).at fun o q => Heap.get?_push_of_some _ q, fun _ => True.intro, fun y hy => absurd rfl hy⟩
/- e.f where nothing but the object is asked: through attributeBase (super) and the last hold -/
theorem attr_of {prog : Program} {w : World} {env : Env} {e : Expr} {f : Str} {pos : Pos} {s : Shared} {Q : Value → Shared → Prop} (hb : attributeBase e f env (eval e env) = eval e env)
    (h : wpAny (model prog w) A (eval e env) (fun o s₁ => wpAny (model prog w) A (getAttr o f true) Q E s₁) E s) : wpAny (model prog w) A (eval (.Attribute e f pos) env) Q E s :=
  Attribute_any_ h (by rw [arm_eval_Attribute, hb])
end
/- e.f, an attribute of the instance -/
inductive tFld_I (K : PySem.W.Frag) (f : Str) (Q : VK) (x : V) (H1 : Hp) : Prop
  | mk : ∀ a C dx fs v, x = .ref a → H1 a = some (.ins C dx fs) → Cls K C → NoAttr K C f → fs.lookup f = some v → Q v H1 → tFld_I K f Q x H1
noncomputable def tFld (K : PySem.W.Frag) (ta : TE) (f : Str) : TE := fun σ H Q => ta σ H fun x H1 => tFld_I K f Q x H1
/- e.f = value -/
inductive sFld_I (K : PySem.W.Frag) (f : Str) (D : Ends) (σ : St) (y : V) (x : V) (H2 : Hp) : Prop
  | mk : ∀ a C dx fs, x = .ref a → H2 a = some (.ins C dx fs) → Cls K C → NoAttr K C f → fs.length < 1000 → D.nx σ (upd H2 a (.ins C dx (putF f y fs))) → sFld_I K f D σ y x H2
noncomputable def sFld (K : PySem.W.Frag) (ta tv : TE) (f : Str) : TS := fun D σ H => tv σ H fun y H1 => ta σ H1 fun x H2 => sFld_I K f D σ y x H2
section
variable {X : Cx} {o e value : Expr} {f : Str} {pos pos' tpos : Pos} {ta tv : TE}
theorem pe_fld (he : PE X e ta) (hb : attributeBase e f X.env (eval e X.env) = eval e X.env) : PE X (.Attribute e f pos) (tFld X.K ta f) := by
  intro pins s σ H Q I h
  refine attr_of hb (thn (he pins s σ H _ I h) fun u s1 ⟨x, H1, I1, rx, a, C, dx, fs, v, ex, ea, c, n, l, q⟩ => ?_)
  subst ex
  obtain rfl : u = Value.ref a := rx
  exact getattr_ok I1 ea c n l fun u' s2 I2 ru => ⟨v, H1, I2, ru, q⟩
theorem ps_fld (ha : PE X o ta) (hv : PE X value tv) (hs : swapsWith value (some (.Attribute o f pos')) pos.line X.env = pure false) : PS X (.Assign [.Attribute o f pos'] value pos) (sFld X.K ta tv f) := by
  intro pins s σ H D I h
  refine plainObj_wpAny_Assign_Attribute (thn (hv pins s σ H _ I h) fun u s1 ⟨y, H1, I1, ry, q⟩ => thn (ha pins s1 σ H1 _ I1 q) fun ov s2 ⟨x, H2, I2, rx, a, C, dx, fs, ex, ea, c, n, l, q2⟩ => ?_) hs
  subst ex
  obtain rfl : ov = Value.ref a := rx
  exact setattr_ok I2 ea c n l ry fun s3 I3 => ⟨σ, _, I3, q2⟩
end
section
variable {X : Cx} {pins : List (Addr × Obj)} {σ : St} {H : Hp} {s : Shared} {A : Around} {E : Value → Shared → Prop} {Q : Value → Shared → Prop} {c : Value} {b : Bool}
/- the type of a value, as the fragment's deciders take it; for an instance its class -/
inductive TyOf (K : PySem.W.Frag) (H : Hp) : V → Value → Prop where
  | non : TyOf K H .non (.type "NoneType")
  | bl (x : Bool) : TyOf K H (.bl x) (.type "bool")
  | int (i : Int) : TyOf K H (.int i) (.type "int")
  | str (x : Str) : TyOf K H (.str x) (.type "str")
  | flt (x : UInt64) : TyOf K H (.flt x) (.type "float")
  | lst {a : Addr} {xs : List V} (e : H a = some (.lst xs)) : TyOf K H (.ref a) (.type "list")
  | frz {a : Addr} {o : Obj} {xs : List V} (e : H a = some (.frz o (.lst xs))) : TyOf K H (.ref a) (.type "list")
  | tup {a : Addr} {xs : List V} (e : H a = some (.tup xs)) : TyOf K H (.ref a) (.type "tuple")
  | dK {a : Addr} {kvs : List (Key × V)} (e : H a = some (.dK kvs)) : TyOf K H (.ref a) (.type "dict")
  | dT {a : Addr} {kvs : List (List Key × V)} (e : H a = some (.dT kvs)) : TyOf K H (.ref a) (.type "dict")
  | ins {a C dx : Addr} {fs : List (Str × V)} (e : H a = some (.ins C dx fs)) (cl : Cls K C) (ha : PySem.W.findIn K (.ref C) "__class__" = some (some (.builtin "object.__class__")))
      (hn : PySem.W.specialIn K (.builtin "object.__class__") "__get__" = some (some (.builtin "getset_descriptor.__get__"))) (htk : PySem.W.takesIn K (.builtin "object.__class__") = some true)
      (hm : PySem.W.mroIn K C (.type "object") = some true) : TyOf K H (.ref a) (.ref C)
/- isinstance(x, c) for one class c, a built-in or an own one: kitOne's answer -/
theorem isinst_ok {x : V} {u t : Value} (I : Inv X pins σ H s) (rx : RelV x u) (ty : TyOf X.K H x t) (e : PySem.W.kitOne X.K t c = some b) (h : ∀ tk, Q (.bool b) { s with toks := tk }) :
    wpAny (model X.prog X.w) A (call (.builtin "isinstance") [u, c]) Q E s := by
  cases ty with
  | non => cases (show u = Value.none from rx); exact PySem.W.kia_one PySem.W.kitx_none I.kIn True.intro e (fun z => nomatch z) h
  | bl y => cases (show u = Value.bool y from rx); exact PySem.W.kia_one PySem.W.kitx_bool I.kIn True.intro e (fun z => nomatch z) h
  | int i => obtain ⟨t, q⟩ := (show ∃ t, u = Value.int i t from rx); cases q; exact PySem.W.kia_one PySem.W.kitx_int I.kIn True.intro e (fun z => nomatch z) h
  | str y => obtain ⟨t, q⟩ := (show ∃ t, u = Value.str y t from rx); cases q; exact PySem.W.kia_one PySem.W.kitx_str I.kIn True.intro e (fun z => nomatch z) h
  | flt y => obtain ⟨t, q⟩ := (show ∃ t, u = Value.float y t from rx); cases q; exact PySem.W.kia_one PySem.W.kitx_float I.kIn True.intro e (fun z => nomatch z) h
  | @lst a xs ea =>
    cases (show u = Value.ref a from rx)
    obtain ⟨_, _, n, _, h1⟩ := (show ObjOk X.prog X.w H s.heap a (.lst xs) from I.hok a _ ea)
    exact PySem.W.kia_one PySem.W.kitx_list I.kIn ⟨_, h1, rfl⟩ e (fun z => nomatch z) h
  | @frz a ob xs ea =>
    cases (show u = Value.ref a from rx)
    obtain ⟨_, _, _, n, _, h1⟩ := (show ObjOk X.prog X.w H s.heap a (.frz ob (.lst xs)) from I.hok a _ ea)
    exact PySem.W.kia_one PySem.W.kitx_list I.kIn ⟨_, h1, rfl⟩ e (fun z => nomatch z) h
  | @tup a xs ea =>
    cases (show u = Value.ref a from rx)
    obtain ⟨_, _, _, p⟩ := (show ObjOk X.prog X.w H s.heap a (.tup xs) from I.hok a _ ea)
    obtain ⟨o, h1, h2, _⟩ := p
    exact PySem.W.kia_one PySem.W.kitx_tuple I.kIn ⟨o, h1, h2⟩ e (fun z => nomatch z) h
  | @dK a kvs ea =>
    cases (show u = Value.ref a from rx)
    obtain ⟨_, _, vs, _, p⟩ := (show ObjOk X.prog X.w H s.heap a (.dK kvs) from I.hok a _ ea)
    obtain ⟨o, es, ep, h1, h2, _⟩ := p
    exact PySem.W.kia_one PySem.W.kitx_dict I.kIn ⟨o, h1, h2.1⟩ e (fun z => nomatch z) h
  | @dT a kvs ea =>
    cases (show u = Value.ref a from rx)
    obtain ⟨_, _, xs, _, o, es, ep, h1, h2, _⟩ := (show ObjOk X.prog X.w H s.heap a (.dT kvs) from I.hok a _ ea)
    exact PySem.W.kia_one PySem.W.kitx_dict I.kIn ⟨o, h1, h2.1⟩ e (fun z => nomatch z) h
  | @ins a C dx fs ea cl ha hn htk hm =>
    cases (show u = Value.ref a from rx)
    obtain ⟨mA, O, _⟩ := ins_get I.hok ea
    obtain ⟨od, J, _⟩ := O.look
    exact PySem.W.kia_one (PySem.W.kitx_own (cl.get _) cl.hd ha hn htk hm) I.kIn J e (fun z => nomatch z) h
end
end L2
namespace L2
open PySem PySem.Spec PyProof.Rows
structure Room (k : Nat) (A : Around) : Prop where
  hd : A.handled = none
  dp : A.depth + 3 * k + 5 < recursionLimit
  un : A.units + 16 * k + 200 < cLine
  gd : A.guards = some []
theorem Room.mono {j k : Nat} {A : Around} (r : Room k A) (h : j ≤ k) : Room j A := ⟨r.hd, by have := r.dp; omega, by have := r.un; omega, r.gd⟩
theorem Room.deeper {k : Nat} {A : Around} (r : Room (k + 1) A) (env : Env) : Room k (A.deeper env) :=
  ⟨r.hd, by have := r.dp; show A.depth + 1 + 3 * k + 5 < _; omega, by have := r.un; show A.units + 3 + 16 * k + 200 < _; omega, r.gd⟩
theorem make_depth {A : Around} {C : Addr} {us : List Value} {kw : List (Str × Value)} : (A.under (.builtin "type.__call__" ⟨.ref C :: us, kw⟩)).depth = A.depth + 1 := by
  first | rfl | simp [Around.under, Code.weight, Code.isCreation, Code.isGuard, Code.isCaller, Code.frames, Code.isFrame, guardIds]
theorem make_units {A : Around} {C : Addr} {us : List Value} {kw : List (Str × Value)} : (A.under (.builtin "type.__call__" ⟨.ref C :: us, kw⟩)).units = A.units + 1 := by
  first | rfl | simp [Around.under, Code.cUnits, Code.frames, Code.isFrame]
theorem make_guards {A : Around} {C : Addr} {us : List Value} {kw : List (Str × Value)} (h : A.guards = some []) : (A.under (.builtin "type.__call__" ⟨.ref C :: us, kw⟩)).guards = some [] := by
  first | exact h | simp [Around.under, Code.guards, Code.isGuard, pushGuards, guardIds, h]
theorem Room.make {k : Nat} {A : Around} (r : Room (k + 1) A) (C : Addr) (us : List Value) (kw : List (Str × Value)) : Room k (A.under (.builtin "type.__call__" ⟨.ref C :: us, kw⟩)) :=
  ⟨r.hd, by have := r.dp; rw [make_depth]; omega, by have := r.un; rw [make_units]; omega, make_guards r.gd⟩
theorem Room.depth {k : Nat} {A : Around} (r : Room k A) : A.depth < recursionLimit := by have := r.dp; omega
theorem Room.units {k : Nat} {A : Around} (r : Room k A) : A.units + 64 < cLine := by have := r.un; omega
noncomputable def tNil : TA := fun _ H Q => Q [] H
noncomputable def tCons (ta : TE) (tr : TA) : TA := fun σ H Q => ta σ H fun x H1 => tr σ H1 fun xs H2 => Q (x :: xs) H2
section
variable {X : Cx} {e : Expr} {es : List Expr} {te : TE} {t : TA} {pos : Pos}
theorem pa_nil : PA X [] tNil := fun _ _ _ _ H Q I h => Calls.spliced_nil ⟨[], H, I, .nil, h⟩
theorem pa_cons (ha : PE X e te) (hr : PA X es t) (hs : starEach (e :: es) X.env = (false, eval e X.env) :: starEach es X.env := by rfl) : PA X (e :: es) (tCons te t) := by
  intro pos pins s σ H Q I h
  rw [hs]
  show wpAny _ _ (spliced ((false, eval e X.env) :: backTo pos (starEach es X.env))) _ _ s
  refine Calls.spliced_cons (thn (ha pins s σ H _ I h) fun u s1 ⟨x, H1, I1, r1, q1⟩ => ?_)
  exact thn (hr pos pins s1 σ H1 _ I1 q1) fun us s2 ⟨xs, H2, I2, r2, q2⟩ => ⟨x :: xs, H2, I2, .cons r1 r2, q2⟩
noncomputable def tLst (t : TA) : TE := fun σ H Q => t σ H fun xs H1 => xs.length ≤ sizeLine ∧ ∀ p, H1 p = none → Q (.ref p) (upd H1 p (.lst xs))
theorem pe_lst (h : PA X es t) : PE X (.List es pos) (tLst t) := by
  intro pins s σ H Q I hq
  refine wpAny_List_spliced (thn (h pos pins s σ H _ I hq) fun us s1 ⟨xs, H1, I1, r, z, q⟩ => ⟨by rw [← r.length]; exact z, ?_⟩)
  have hf : H1 s1.heap.objs.size = none := I1.hok.fresh (Nat.le_refl _)
  refine ⟨.ref s1.heap.objs.size, upd H1 s1.heap.objs.size (.lst xs), I1.laid (t' := s1.toks) (fun b u e => Heap.get?_push_of_some _ e) (Nat.le_refl _) ?_, rfl, q _ hf⟩
  exact ⟨z, us, 0, r, Heap.get?_push_size _ rfl⟩
end
/- a def's promise: the bound arguments in the parameters' order, the heap, the wanted end, the wanted exception -/
noncomputable abbrev Sp := List V → Hp → VK → XK → Prop
/- how an exception lies behind a call (file 08 gives it): the callers' frames, abstract heap and state ahead of the call, the wish, the exception, the state -/
noncomputable abbrev CXT := List Env → Hp → Shared → XK → Value → Shared → Prop
/- the state at a call -/
structure Env0 (P : Program) (w : World) (K : PySem.W.Frag) (mg : Str → Option Value) (base : Heap) (A : Around) (outer : List Env) (s : Shared) (H : Hp) : Prop where
  frames : A.frames = some outer
  mod : Mod K mg base
  bs : ∀ b o, base.get? b = some o → s.heap.get? b = some o ∧ H b = none
  bsz : base.objs.size ≤ s.heap.objs.size
  funs : s.heap.FunFrames base outer
  frf : ∀ b ∈ frs outer, H b = none
  hok : HOk P w H s.heap
  bare : AllBare s.gens
/- a call's end -/
noncomputable def CE (outer : List Env) (P : Program) (w : World) (H : Hp) (s : Shared) (Q : VK) (u : Value) (s' : Shared) : Prop :=
  ∃ v H', s'.os = s.os ∧ AllBare s'.gens ∧ Un (frs outer) [] H H' s.heap s'.heap ∧ HOk P w H' s'.heap ∧ RelV v u ∧ Q v H'
noncomputable def CR (CX : CXT) (outer : List Env) (P : Program) (w : World) (H : Hp) (s : Shared) (Q : VK) (E : XK) (r : Result) (s' : Shared) : Prop :=
  match r with
  | .ok (.ret u) => CE outer P w H s Q u s'
  | .ok _ => False
  | .error e => CX outer H s E e s'
structure FnOk (P : Program) (w : World) (K : PySem.W.Frag) (mg : Str → Option Value) (base : Heap) (CX : CXT) (k : Nat) (f : Addr) (fd : FuncData) (ps : List Str) (sp : Sp) : Prop where
  len : ∀ vs H Q E, sp vs H Q E → vs.length = ps.length
  run : ∀ (A : Around) (outer : List Env) (s : Shared) (H : Hp) (args : Args) (us : List Value) (vs : List V) (Q : VK) (E : XK), Room k A → Env0 P w K mg base A outer s H → BindsTo s fd args (ps.zip us) → Vals vs us → sp vs H Q E →
    codeAny (model P w) A (.call (.ref f) args) (CR CX outer P w H s Q E) s
theorem Env0.make {P : Program} {w : World} {K : PySem.W.Frag} {mg : Str → Option Value} {base : Heap} {A : Around} {outer : List Env} {s : Shared} {H : Hp} (e : Env0 P w K mg base A outer s H) (C : Addr) (us : List Value) (kw : List (Str × Value)) :
    Env0 P w K mg base (A.under (.builtin "type.__call__" ⟨.ref C :: us, kw⟩)) outer s H := ⟨by first | exact e.frames | (simpa [Around.under, Code.envs, Code.isFrame, pushEnvs] using e.frames), e.mod, e.bs, e.bsz, e.funs, e.frf, e.hok, e.bare⟩
section
variable {X : Cx} {pins : List (Addr × Obj)} {σ : St} {H : Hp} {s s' : Shared}
/- from a body: what a callee wants -/
theorem Inv.env0 (I : Inv X pins σ H s) : Env0 X.prog X.w X.K X.mg X.base X.A X.stack s H :=
  ⟨I.ok.frames, I.ok.mod, I.bs, Nat.le_trans I.ok.bsz I.sz, I.stack, I.stkFree, I.hok, I.bare⟩
/- behind a call -/
theorem Inv.after {Q : VK} {u : Value} (I : Inv X pins σ H s) (h : CE X.stack X.prog X.w H s Q u s') : EP X pins σ Q u s' := by
  obtain ⟨v, H', os, bare, un, hok, r, q⟩ := h
  obtain ⟨hh, g, d, t, os'⟩ := s'
  obtain rfl : os' = s.os := os
  exact ⟨v, H', I.call (h' := hh) (g' := g) (d' := d) (t' := t) (ch := []) un hok bare (fun b z => absurd z (by simp)), r, q⟩
end
/- f(..): the written arguments, then the defaults dvs; E: what is wanted of an exception -/
noncomputable def tCall (sp : Sp) (dvs : List V) (E : XK) (t : TA) : TE := fun σ H Q => t σ H fun vs H1 => sp (vs ++ dvs) H1 Q E
/- o.m(..) of an instance of the class at C -/
inductive tMeth_I (C : Addr) (m : Str) (sp : Sp) (dvs : List V) (E : XK) (t : TA) (σ : St) (Q : VK) (x : V) (H1 : Hp) : Prop
  | mk : ∀ a dx fs, x = .ref a → H1 a = some (.ins C dx fs) → fs.lookup m = none → (t σ H1 fun vs H2 => sp (x :: (vs ++ dvs)) H2 Q E) → tMeth_I C m sp dvs E t σ Q x H1
noncomputable def tMeth (C : Addr) (m : Str) (sp : Sp) (dvs : List V) (E : XK) (ta : TE) (t : TA) : TE := fun σ H Q => ta σ H fun x H1 => tMeth_I C m sp dvs E t σ Q x H1
/- C(..): a new instance and its dict, then __init__ -/
noncomputable def tMake (C : Addr) (sp : Sp) (dvs : List V) (E : XK) (t : TA) : TE := fun σ H Q => t σ H fun vs H1 => ∀ x dx, H1 x = none → H1 dx = none → dx ≠ x →
  sp (.ref x :: (vs ++ dvs)) (upd (upd H1 dx (.own x)) x (.ins C dx [])) (fun v H2 => v = .non ∧ Q (.ref x) H2) E
/- how the parameters are bound: us the positional arguments, kw the keywords' values by name, ds the defaults that fill up -/
noncomputable def Binds (K : PySem.W.Frag) (fd : FuncData) (ps : List Str) (ds : List Value) : Prop :=
  ∀ (s : Shared) (us : List Value), K.In s.heap → (us ++ ds).length = ps.length → BindsTo s fd ⟨us, []⟩ (ps.zip (us ++ ds))
/- every parameter is given -/
theorem Binds.all {K : PySem.W.Frag} {fd : FuncData} {ps : List Str} (h : ∀ us : List Value, us.length = ps.length → bindArgs fd ⟨us, []⟩ = pure (ps.zip us)) : Binds K fd ps [] := fun s us _ hl => by
  rw [List.append_nil] at hl ⊢
  exact .of_eq (h us hl)
/- an exception of a callee reaches what this body wants of exceptions -/
noncomputable def Passes (CX : CXT) (X : Cx) (E : XK) : Prop := ∀ (pins : List (Addr × Obj)) (σ : St) (H : Hp) (s : Shared) (e : Value) (s' : Shared), Inv X pins σ H s → CX X.stack H s E e s' → X.xe e s'
section
variable {X : Cx} {CX : CXT} {k : Nat} {f C : Addr} {fd : FuncData} {ps : List Str} {sp : Sp} {dvs : List V} {ds : List Value} {E : XK} {x m : Str} {p pos apos : Pos} {e o : Expr} {es : List Expr} {ta : TE} {t : TA}
/- the callee runs -/
theorem run_fn {pins : List (Addr × Obj)} {σ : St} {H : Hp} {s : Shared} {Q : VK} {us : List Value} {vs : List V} (F : FnOk X.prog X.w X.K X.mg X.base CX k f fd ps sp) (hr : Room k X.A) (hb : Binds X.K fd ps ds) (hd : Vals dvs ds) (hx : Passes CX X E)
    (I : Inv X pins σ H s) (r : Vals vs us) (h : sp (vs ++ dvs) H Q E) : wpAny (model X.prog X.w) X.A (call (.ref f) us) (EP X pins σ Q) X.xe s := by
  have r2 : Vals (vs ++ dvs) (us ++ ds) := r.append hd
  have hl : (us ++ ds).length = ps.length := by rw [← r2.length]; exact F.len _ _ _ _ h
  refine wpAny_call (codeAny_mono (F.run X.A X.stack s H ⟨us, []⟩ (us ++ ds) (vs ++ dvs) Q E hr I.env0 (hb s us I.kIn hl) r2 h) fun r s' hq => ?_)
  cases r with
  | error e => exact hx pins σ H s e s' I hq
  | ok fl =>
    cases fl with
    | ret u => exact I.after hq
    | next => exact False.elim hq
    | brk => exact False.elim hq
    | cont => exact False.elim hq
theorem pe_call (F : FnOk X.prog X.w X.K X.mg X.base CX k f fd ps sp) (hr : Room k X.A) (hg : Gl X x) (hm : X.mg x = some (.ref f)) (hk : PySem.W.keepIn X.K (.ref f) = true) (hb : Binds X.K fd ps ds) (hd : Vals dvs ds) (hx : Passes CX X E)
    (ha : PA X (e :: es) t) (hdb : (x == ("__debug__" : Str)) = false := by decide) (he : starEach (e :: es) X.env = (false, eval e X.env) :: starEach es X.env := by rfl) (hpl : (backTo pos (starEach es X.env)).any (·.1) = false := by rfl) :
    PE X (.Call (.Name x p) (e :: es) [] pos) (tCall sp dvs E t) := by
  intro pins s σ H Q I h
  refine wpAny_Call_Name_kw (ld_glob I hg hm ?_ hdb)
  refine PySem.W.callWith_K (h₀ := X.base) I.ok.mod.kin hk (thn (ha pos pins s σ H _ I h) fun us s1 ⟨vs, H1, I1, r, q⟩ => ⟨I1.kIn, ?_⟩) he hpl
  exact run_fn F hr hb hd hx I1 r q
/- o.m(e, ..) -/
theorem pe_meth {pl : Sem Bool} (he : PE X o ta) (c : Cls X.K C) (hm : Meth X.K C m f) (F : FnOk X.prog X.w X.K X.mg X.base CX k f fd ps sp) (hr : Room k X.A) (hb : Binds X.K fd ps ds) (hd : Vals dvs ds) (hx : Passes CX X E) (ha : PA X (e :: es) t)
    (hst : starEach (e :: es) X.env = (false, eval e X.env) :: starEach es X.env := by rfl) (hpl : (backTo pos (starEach es X.env)).any (·.1) = false := by rfl)
    (ht : eval (.Call (.Attribute o m apos) (e :: es) [] pos) X.env = (do
      let ov ← eval o X.env
      standAt apos.atName
      let (f, first) ← holding [ov] (getMethod ov m pl)
      callWith pos f first (backTo pos (starEach (e :: es) X.env)) (backToKw pos (keywordEach [] X.env))) := by rfl) :
    PE X (.Call (.Attribute o m apos) (e :: es) [] pos) (tMeth C m sp dvs E ta t) := by
  intro pins s σ H Q I h
  refine PySem.W.methodCall_KW (pl := pl) (thn (he pins s σ H _ I h) fun u s1 ⟨x, H1, I1, rx, a, dx, fs, ex, ea, l, q⟩ => ?_) ht
  subst ex
  obtain rfl : u = Value.ref a := rx
  refine getmeth_ok I1 ea c hm l ?_
  refine PySem.W.callWith_K (first := [.ref a]) (h₀ := X.base) I.ok.mod.kin hm.kp (thn (ha pos pins s1 σ H1 _ I1 q) fun us s2 ⟨vs, H2, I2, r, q2⟩ => ⟨I2.kIn, ?_⟩) hst hpl
  exact run_fn (us := .ref a :: us) (vs := .ref a :: vs) F hr hb hd hx I2 (.cons rfl r) q2
/- o.m() -/
theorem pe_meth0 {pl : Sem Bool} (he : PE X o ta) (c : Cls X.K C) (hm : Meth X.K C m f) (F : FnOk X.prog X.w X.K X.mg X.base CX k f fd ps sp) (hr : Room k X.A) (hb : Binds X.K fd ps ds) (hd : Vals dvs ds) (hx : Passes CX X E)
    (ht : eval (.Call (.Attribute o m apos) [] [] pos) X.env = (do
      let ov ← eval o X.env
      standAt apos.atName
      let (f, first) ← holding [ov] (getMethod ov m pl)
      callWith pos f first (backTo pos (starEach [] X.env)) (backToKw pos (keywordEach [] X.env))) := by rfl) :
    PE X (.Call (.Attribute o m apos) [] [] pos) (tMeth C m sp dvs E ta tNil) := by
  intro pins s σ H Q I h
  refine PySem.W.methodCall_KW (pl := pl) (thn (he pins s σ H _ I h) fun u s1 ⟨x, H1, I1, rx, a, dx, fs, ex, ea, l, q⟩ => ?_) ht
  subst ex
  obtain rfl : u = Value.ref a := rx
  refine getmeth_ok I1 ea c hm l ?_
  exact PySem.W.callWith_K0 (first := [.ref a]) I1.kIn hm.kp (run_fn (us := [.ref a]) (vs := [.ref a]) F hr hb hd hx I1 (.cons rfl .nil) q)
/- what a class must have to be made -/
structure Mk (K : PySem.W.Frag) (C f : Addr) : Prop where
  makes : PySem.W.makesIn K C = true
  init : PySem.W.findIn K (.ref C) "__init__" = some (some (.ref f))
  fn : PySem.W.isFn K (.ref f) = true
  kp : PySem.W.keepIn K (.ref C) = true
theorem run_make {pins : List (Addr × Obj)} {σ : St} {H : Hp} {s : Shared} {Q : VK} {us : List Value} {vs : List V} (M : Mk X.K C f) (F : FnOk X.prog X.w X.K X.mg X.base CX k f fd ps sp) (hr : Room (k + 1) X.A) (hb : Binds X.K fd ps ds) (hd : Vals dvs ds)
    (hx : Passes CX X E) (I : Inv X pins σ H s) (r : Vals vs us)
    (h : ∀ x dx, H x = none → H dx = none → dx ≠ x → sp (.ref x :: (vs ++ dvs)) (upd (upd H dx (.own x)) x (.ins C dx [])) (fun v H2 => v = .non ∧ Q (.ref x) H2) E) :
    wpAny (model X.prog X.w) X.A (call (.ref C) us) (EP X pins σ Q) X.xe s := by
  have hq := h (s.heap.objs.size + 1) s.heap.objs.size (I.hok.fresh (Nat.le_succ _)) (I.hok.fresh (Nat.le_refl _)) (Nat.ne_of_lt (Nat.lt_succ_self _))
  have I2 := Inv.made (C := C) I
  have r2 : Vals (V.ref (s.heap.objs.size + 1) :: (vs ++ dvs)) (Value.ref (s.heap.objs.size + 1) :: (us ++ ds)) := .cons rfl (r.append hd)
  have hl : (Value.ref (s.heap.objs.size + 1) :: us ++ ds).length = ps.length := by
    have e := r2.length
    rw [F.len _ _ _ _ hq] at e
    exact e.symm
  refine wpAny_call (make_map (f := f) I.kIn M.makes M.init (beq_iff_eq.mp M.fn) (codeAny_mono (F.run _ X.stack _ _ ⟨Value.ref (s.heap.objs.size + 1) :: us, []⟩ (Value.ref (s.heap.objs.size + 1) :: (us ++ ds)) _ _ E (hr.make C us [])
    (I2.env0.make C us []) (hb _ (Value.ref (s.heap.objs.size + 1) :: us) I2.kIn hl) r2 hq) fun r s' hq' => ?_))
  cases r with
  | error e => exact hx pins σ _ _ e s' I2 hq'
  | ok fl =>
    cases fl with
    | ret u =>
      obtain ⟨v, H', I3, rv, ev, q3⟩ := I2.after hq'
      subst ev
      exact ⟨rv, ⟨V.ref (s.heap.objs.size + 1), H', I3, rfl, q3⟩⟩
    | next => exact False.elim hq'
    | brk => exact False.elim hq'
    | cont => exact False.elim hq'
theorem pe_make0 (M : Mk X.K C f) (F : FnOk X.prog X.w X.K X.mg X.base CX k f fd ps sp) (hr : Room (k + 1) X.A) (hg : Gl X x) (hm : X.mg x = some (.ref C)) (hb : Binds X.K fd ps ds) (hd : Vals dvs ds) (hx : Passes CX X E)
    (hdb : (x == ("__debug__" : Str)) = false := by decide) : PE X (.Call (.Name x p) [] [] pos) (tMake C sp dvs E tNil) := by
  intro pins s σ H Q I h
  refine wpAny_Call_Name_kw (ld_glob I hg hm ?_ hdb)
  exact PySem.W.callWith_K0 I.kIn M.kp (run_make (us := []) M F hr hb hd hx I .nil h)
end
section
variable {X : Cx} {CX : CXT} {k : Nat} {f C : Addr} {fd : FuncData} {ps ks : List Str} {sp : Sp} {E : XK} {x m : Str} {p pos apos kpos : Pos} {e o : Expr} {es : List Expr} {kws : List Keyword} {te ta : TE} {t tk : TA} {nm : Option Str}
variable {g : List Value → List Value → List Value} {gV : List V → List V → List V}
end
/- names: the parameters first -/
structure FnScope (N P : List Str) (sc : Scope) : Prop where
  kind : sc.kind = .function
  co : sc.isCoroutine = false
  gen : sc.isGenerator = false
  nd : N.Nodup
  pre : N.take P.length = P
  par : ∀ x ∈ P, sc.names.lookup x = some .local ∨ sc.names.lookup x = some .cell
  nofree : ∀ y ∈ sc.names, y.2 ≠ .free
theorem bindL_out {kindOf : Str → Option NameKind} {x : Str} : ∀ {binds : List (Str × Value)} {m : Str → Option Value}, (∀ v, (x, v) ∉ binds) → bindL kindOf binds m x = m x
  | [], _, _ => rfl
  | (n, v) :: r, m, h => by
    unfold bindL
    rw [bindL_out fun w hw => h w (List.mem_cons_of_mem _ hw)]
    split
    · have : x ≠ n := by rintro rfl; exact h v List.mem_cons_self
      simp [this]
    · rfl
theorem bindC_out {kindOf : Str → Option NameKind} {x : Str} : ∀ {binds : List (Str × Value)} {m : Str → Option Value}, (∀ v, (x, v) ∉ binds) → bindC kindOf binds m x = m x
  | [], _, _ => rfl
  | (n, v) :: r, m, h => by
    unfold bindC
    rw [bindC_out fun w hw => h w (List.mem_cons_of_mem _ hw)]
    split
    · rfl
    · have : x ≠ n := by rintro rfl; exact h v List.mem_cons_self
      simp [this]
theorem bindL_get {kindOf : Str → Option NameKind} {x : Str} {v : Value} : ∀ {P : List Str} {vs : List Value} {i : Nat} {m : Str → Option Value}, P.Nodup → P[i]? = some x → vs[i]? = some v → kindOf x = some .local →
    bindL kindOf (P.zip vs) m x = some v
  | [], _, _, _, _, h, _, _ => by simp at h
  | _ :: _, [], _, _, _, _, h, _ => by simp at h
  | p :: P, w :: vs, 0, m, nd, h1, h2, hk => by
    simp at h1 h2; subst h1; subst h2
    show bindL kindOf ((p, w) :: P.zip vs) m p = _
    unfold bindL
    rw [bindL_out fun v hv => (List.nodup_cons.mp nd).1 (List.of_mem_zip hv).1, if_pos hk]
    simp
  | p :: P, w :: vs, i + 1, m, nd, h1, h2, hk => by
    show bindL kindOf ((p, w) :: P.zip vs) m x = _
    unfold bindL
    exact bindL_get (i := i) (List.nodup_cons.mp nd).2 (by simpa using h1) (by simpa using h2) hk
theorem bindC_get {kindOf : Str → Option NameKind} {x : Str} {v : Value} : ∀ {P : List Str} {vs : List Value} {i : Nat} {m : Str → Option Value}, P.Nodup → P[i]? = some x → vs[i]? = some v → kindOf x ≠ some .local →
    bindC kindOf (P.zip vs) m x = some v
  | [], _, _, _, _, h, _, _ => by simp at h
  | _ :: _, [], _, _, _, _, h, _ => by simp at h
  | p :: P, w :: vs, 0, m, nd, h1, h2, hk => by
    simp at h1 h2; subst h1; subst h2
    show bindC kindOf ((p, w) :: P.zip vs) m p = _
    unfold bindC
    rw [bindC_out fun v hv => (List.nodup_cons.mp nd).1 (List.of_mem_zip hv).1, if_neg hk]
    simp
  | p :: P, w :: vs, i + 1, m, nd, h1, h2, hk => by
    show bindC kindOf ((p, w) :: P.zip vs) m x = _
    unfold bindC
    exact bindC_get (i := i) (List.nodup_cons.mp nd).2 (by simpa using h1) (by simpa using h2) hk
/- the names' values at the entry -/
noncomputable def start (N : List Str) (vs : List V) : St := vs.map some ++ List.replicate (N.length - vs.length) none
/- the context of a def's body, at its entry; an exception leaves the frame, then lies as CX says -/
noncomputable def cxOf (CX : CXT) (P : Program) (w : World) (K : PySem.W.Frag) (mg : Str → Option Value) (base : Heap) (N : List Str) (qual : Str) (scope : Scope) (f : Addr) (cd : Value) (A : Around) (outer : List Env) (s : Shared) (H : Hp) (E : XK) : Cx where
  prog := P
  w := w
  K := K
  mg := mg
  base := base
  A := A.deeper (envOfC qual scope s.heap.objs.size f cd)
  N := N
  s₀ := s
  H₀ := H
  env := envOfC qual scope s.heap.objs.size f cd
  outer := outer
  stack := envOfC qual scope s.heap.objs.size f cd :: outer
  ex := []
  calm := true
  fn := fun _ => true
  pn := []
  xe := fun e s' => wpAny (model P w) (A.deeper (envOfC qual scope s.heap.objs.size f cd)) (leaving (envOfC qual scope s.heap.objs.size f cd) e) (fun _ s'' => CX outer H s E e s'') (fun e' s'' => CX outer H s E e' s'') s'
theorem cell_has {sc : Scope} {n : Nat} {x : Str} (h : sc.names.lookup x = some .cell) : ∃ c, (cellsFrom n sc.names []).lookup x = some c := by
  have q := PySem.W.cellsFrom_some sc.names n [] (.inl h)
  exact Option.isSome_iff_exists.mp q
theorem inv_start {CX : CXT} {P : Program} {w : World} {K : PySem.W.Frag} {mg : Str → Option Value} {base : Heap} {N ps : List Str} {qual : Str} {scope : Scope} {f : Addr} {cd : Value} {A : Around} {outer : List Env} {s s1 : Shared} {H : Hp} {E : XK} {us : List Value} {vs : List V}
    (S : FnScope N ps scope) (hd : A.handled = none) (e0 : Env0 P w K mg base A outer s H) (hl : vs.length = ps.length) (r : Vals vs us)
    (x : InCallC s s.heap.objs.size (bindL (envOfC qual scope s.heap.objs.size f cd).kindOf (ps.zip us) fun _ => none) (cellsFrom (s.heap.objs.size + 1) scope.names []) (bindC (envOfC qual scope s.heap.objs.size f cd).kindOf (ps.zip us) fun _ => none) s1) :
    Inv (cxOf CX P w K mg base N qual scope f cd A outer s H E) [] (start N vs) H s1 := by
  have hpl : ps.length ≤ N.length := by have := congrArg List.length S.pre; rw [List.length_take] at this; omega
  obtain ⟨h1, tk, rfl, hk⟩ := x.done
  have noA : ∀ b : Addr, b ∉ (cxOf CX P w K mg base N qual scope f cd A outer s H E).ex := fun b z => absurd (show b ∈ ([] : List Addr) from z) (by simp)
  refine ⟨⟨e0.mod, S.kind, rfl, rfl, Nat.le_refl _, fun y z c h1 h2 => ?_, fun y hy => ?_, fun y c _ h => ?_, fun _ => hd, Around.frames_deeper e0.frames, .inr ⟨rfl, rfl⟩, fun b z => absurd z (noA b), e0.bs, e0.bsz, fun b _ _ => noA b, fun b z => absurd z (noA b), e0.funs, e0.frf⟩,
    rfl, e0.bare, Un.kept hk, ⟨_, x.toInCall.ns, fun i y v h1 h2 h3 => ?_⟩, fun y c h => ⟨_, x.cell y c h⟩, e0.hok.fresh (Nat.le_refl _), fun y c h => ?_, fun p hp => absurd (show p ∈ ([] : List (Addr × Obj)) from hp) (by simp), e0.hok.kept hk, ?_⟩
  · exact name_of_addr x.apart (PySem.mem_of_lookup h1) (PySem.mem_of_lookup h2)
  · have hy : scope.names.lookup y = some .cell ∨ scope.names.lookup y = some .free := hy
    rcases hy with hy | hy
    · exact cell_has hy
    · exact absurd rfl (S.nofree _ (PySem.mem_of_lookup hy))
  · exact Nat.le_of_lt (x.above y c (PySem.mem_of_lookup h))
  · have hi : i < vs.length := by
      unfold start at h2
      by_cases hi : i < vs.length
      · exact hi
      · rw [List.getElem?_append_right (by simpa using hi)] at h2
        rw [List.getElem?_replicate] at h2
        split at h2 <;> cases h2
    have ha : vs[i]? = some v := by
      unfold start at h2
      rw [List.getElem?_append_left (by simpa using hi), List.getElem?_map] at h2
      cases e : vs[i]? with
      | none => rw [e] at h2; cases h2
      | some a => rw [e] at h2; cases h2; rfl
    obtain ⟨u, hu, rv⟩ := r.get ha
    have hp : ps[i]? = some y := by
      rw [← S.pre, List.getElem?_take_of_lt (by omega)]; exact h1
    have ndP : ps.Nodup := by rw [← S.pre]; exact S.nd.sublist (List.take_sublist _ _)
    refine ⟨u, rv, ?_⟩
    rcases S.par y (List.mem_of_getElem? hp) with k | k
    · exact .inl ⟨k, bindL_get ndP hp hu k⟩
    · obtain ⟨c, e⟩ := cell_has (n := s.heap.objs.size + 1) k
      refine .inr ⟨.inl k, c, e, ?_⟩
      have q := x.cell y c e
      rw [bindC_get ndP hp hu (by show scope.names.lookup y ≠ _; rw [k]; decide)] at q
      exact q
  · exact e0.hok.fresh (Nat.le_of_lt (x.above y c (PySem.mem_of_lookup h)))
  · unfold start
    show _ = N.length
    rw [List.length_append, List.length_map, List.length_replicate]
    omega
/- THE RULE: a def (or a method) of the text, by its body. The body's reading t is chosen for each entry; it is run at the parameters' values -/
theorem fn_of {CX : CXT} {P : Program} {w : World} {K : PySem.W.Frag} {mg : Str → Option Value} {base : Heap} {k : Nat} {f : Addr} {name qual : Str} {params : Arguments} {body : List Stmt} {scope : Scope} {dV kV doc pm cdv ct oc : Value} {an od : Option Addr}
    {osl : Array (Option Value)} {N ps : List Str} {sp : Sp} (lk : K.lookup f = some ⟨oc, od, .func (PySem.W.fnOf name qual params body scope dV kV doc pm an cdv ct), osl⟩) (hcd : PySem.W.codeIn K cdv qual = true) (S : FnScope N ps scope)
    (len : ∀ vs H Q E, sp vs H Q E → vs.length = ps.length)
    (hbody : ∀ (A : Around) (outer : List Env) (s : Shared) (H : Hp) (vs : List V) (Q : VK) (E : XK), Room k (A.deeper (envOfC qual scope s.heap.objs.size f cdv)) → sp vs H Q E →
      ∃ t, PSs (cxOf CX P w K mg base N qual scope f cdv A outer s H E) body t ∧ t { nx := fun _ H' => Q .non H', rt := Q } (start N vs) H) :
    FnOk P w K mg base CX (k + 1) f (PySem.W.fnOf name qual params body scope dV kV doc pm an cdv ct) ps sp := by
  refine ⟨len, fun A outer s H args us vs Q E hr e0 hb r hsp => ?_⟩
  have hl := len _ _ _ _ hsp
  have KX : K.In s.heap := e0.mod.kin.keeps fun b o e => (e0.bs b o e).1
  have lim : s.heap.NoLimit := e0.mod.nolimit.keeps fun b o e => (e0.bs b o e).1
  have hkind : ∀ y ∈ ps.zip us, scope.names.lookup y.1 = some .local ∨ (scope.names.lookup y.1 = some .cell ∧ ((cellsFrom (s.heap.objs.size + 1) scope.names []).lookup y.1).isSome = true) := fun ⟨n, v⟩ hy => by
    rcases S.par n (List.of_mem_zip hy).1 with q | q
    · exact .inl q
    · exact .inr ⟨q, PySem.W.cellsFrom_some _ _ _ (.inl q)⟩
  refine codeAny_call_function hr.depth (KX _ _ lk) rfl S.co S.gen rfl (PySem.W.codeRec_of KX hcd) (hb _ _ _ _ ?_)
  refine wpAny_newFunctionEnv_cells S.kind hkind fun env he s1 x => ?_
  subst he
  refine ⟨lim.keeps x.toInCall.keep, codeAny_func ?_⟩
  obtain ⟨t, ht, hq⟩ := hbody A outer s H vs Q E (hr.deeper _) hsp
  have I : Inv (cxOf CX P w K mg base N qual scope f cdv A outer s H E) [] (start N vs) H s1 := inv_start S hr.hd e0 hl r x
  refine wpAny_mono (ht [] s1 (start N vs) H _ I hq) (fun fl s' hs => ?_) fun e s' hs => hs
  have fin : ∀ {σ' : St} {H' : Hp} {v : V} {u : Value}, Inv (cxOf CX P w K mg base N qual scope f cdv A outer s H E) [] σ' H' s' → RelV v u → Q v H' → CE outer P w H s Q u s' :=
    fun {σ' H' v u} J rv q => ⟨v, H', J.os, J.bare, J.base, J.hok, rv, q⟩
  cases fl with
  | ret u =>
    obtain ⟨v, σ', H', J, rv, q⟩ := hs
    exact fin J rv q
  | next =>
    obtain ⟨σ', H', J, q⟩ := hs
    exact fin (v := V.non) (u := Value.none) J rfl q
  | brk =>
    obtain ⟨_, _, _, q⟩ := hs
    exact False.elim q
  | cont =>
    obtain ⟨_, _, _, q⟩ := hs
    exact False.elim q
end L2
namespace L2
open PySem PySem.Spec PyProof.Rows
section
variable {X : Cx} {x : Str} {p pos : Pos} {e : Expr} {es : List Expr} {t : TA} {id T : String} {r : List V → Hp → VK → Prop}
noncomputable def tCB (r : List V → Hp → VK → Prop) (t : TA) : TE := fun σ H Q => t σ H fun vs H1 => r vs H1 Q
/- f(e, ..), f a built-in function -/
theorem pe_callB (hc : CallR X (.builtin id) r) (hg : Gl X x) (hm : X.mg x = none) (hv : bootBuiltins x = some (.builtin id)) (ha : PA X (e :: es) t) (hn : x ≠ "__name__" := by decide) (hdb : (x == ("__debug__" : Str)) = false := by decide)
    (he : starEach (e :: es) X.env = (false, eval e X.env) :: starEach es X.env := by rfl) (hpl : (backTo pos (starEach es X.env)).any (·.1) = false := by rfl) : PE X (.Call (.Name x p) (e :: es) [] pos) (tCB r t) := by
  intro pins s σ H Q I h
  refine wpAny_Call_Name_kw (ld_blt I hg hm hv ?_ hn hdb)
  exact PyProof.Rows.callWith_builtin1 (thn (ha pos pins s σ H _ I h) fun us s1 ⟨vs, H1, I1, r1, q1⟩ => hc pins s1 σ H1 vs us Q I1 r1 q1) he hpl
/- T(e, ..), T a built-in type -/
theorem pe_callTy (hc : CallR X (.type T) r) (hg : Gl X x) (hm : X.mg x = none) (hv : bootBuiltins x = some (.type T)) (ha : PA X (e :: es) t) (hn : x ≠ "__name__" := by decide) (hdb : (x == ("__debug__" : Str)) = false := by decide)
    (he : starEach (e :: es) X.env = (false, eval e X.env) :: starEach es X.env := by rfl) (hpl : (backTo pos (starEach es X.env)).any (·.1) = false := by rfl) : PE X (.Call (.Name x p) (e :: es) [] pos) (tCB r t) := by
  intro pins s σ H Q I h
  refine wpAny_Call_Name_kw (ld_blt I hg hm hv ?_ hn hdb)
  exact PyProof.Rows.callWith_type1 (thn (ha pos pins s σ H _ I h) fun us s1 ⟨vs, H1, I1, r1, q1⟩ => hc pins s1 σ H1 vs us Q I1 r1 q1) he hpl
end
end L2
namespace HT
open PySem PyProof.Rows
section
open PySem.SeqAt
open PySem.AutoSeq1 (wpAny_loadPart')
open PySem.MeetsSeq PySem.MeetsSeq2 PySem.MeetsSeq3
end
section
variable {prog : Program} {w : World} {A : Around} {E : Value → Shared → Prop} {s : Shared}
end
end HT
namespace L2
open PySem PySem.Spec PyProof.Rows
section
variable {X : Cx} {e : Expr} {te : TE} {lo hi : Option Expr} {tl th : TO} {pos p2 : Pos}
end
end L2
namespace L2
open PySem PySem.Spec PyProof.Rows
/- the place that an index of any sign means -/
noncomputable def ixN (n : Nat) (i : Int) : Option Nat := if 0 ≤ i then (if i < n then some i.toNat else none) else if -(n : Int) ≤ i then some (i + n).toNat else none
noncomputable def atI {α : Type} (xs : List α) (i : Int) : Option α := (ixN xs.length i).bind fun j => xs[j]?
theorem ixN_seq {n : Nat} {i : Int} {j : Nat} (h : ixN n i = some j) : seqIndex? i n = some j ∧ j < n ∧ -(n : Int) ≤ i ∧ i < n := by
  unfold ixN at h
  by_cases h0 : 0 ≤ i
  · rw [if_pos h0] at h
    by_cases h1 : i < n
    · rw [if_pos h1] at h
      have e : i.toNat = j := Option.some.inj h
      exact ⟨by rw [seqIndex_of h0 h1, e], by omega, by omega, h1⟩
    · rw [if_neg h1] at h; cases h
  · rw [if_neg h0] at h
    by_cases h1 : -(n : Int) ≤ i
    · rw [if_pos h1] at h
      have e : (i + n).toNat = j := Option.some.inj h
      exact ⟨by rw [seqIndex_neg (by omega) h1, e], by omega, h1, by omega⟩
    · rw [if_neg h1] at h; cases h
theorem atI_get {α : Type} {xs : List α} {i : Int} {v : α} (h : atI xs i = some v) : ∃ j, seqIndex? i xs.length = some j ∧ xs[j]? = some v ∧ j < xs.length ∧ -(xs.length : Int) ≤ i ∧ i < xs.length := by
  unfold atI at h
  cases e : ixN xs.length i with
  | none => rw [e] at h; cases h
  | some j =>
    rw [e] at h
    obtain ⟨h1, h2, h3, h4⟩ := ixN_seq e
    exact ⟨j, h1, h, h2, h3, h4⟩
theorem atI_nat {α : Type} {xs : List α} {j : Nat} {v : α} (h : xs[j]? = some v) : atI xs (j : Int) = some v := by
  have hj : j < xs.length := (List.getElem?_eq_some_iff.mp h).1
  have e : ixN xs.length (j : Int) = some j := by
    unfold ixN
    rw [if_pos (by omega), if_pos (by omega)]; simp
  unfold atI; rw [e]; exact h
/- what stands as an index of a plain subscript -/
noncomputable def PlainIx (b : Expr) : Prop := ∀ o i, subscripted b false o i = operate [o, i] (getItem o i)
/- a subscript by values -/
noncomputable def IxR (X : Cx) (r : R2) : Prop :=
  ∀ (value slice : Expr) (pins : List (Addr × Obj)) (s : Shared) (σ : St) (H : Hp) (x y : V) (v u : Value) (Q : VK), Inv X pins σ H s → RelV x v → RelV y u → r x y H Q →
    subscripted slice false v u = operate [v, u] (getItem v u) → wpAny (model X.prog X.w) X.A (subscriptTail value slice v u) (EP X pins σ Q) X.xe s
/- a call of a builtin's method by values: the receiver, the arguments -/
noncomputable def MtR (X : Cx) (id : String) (r : V → List V → Hp → VK → Prop) : Prop :=
  ∀ (pins : List (Addr × Obj)) (s : Shared) (σ : St) (H : Hp) (x : V) (xs : List V) (v : Value) (us : List Value) (Q : VK), Inv X pins σ H s → RelV x v → Vals xs us → r x xs H Q →
    wpAny (model X.prog X.w) X.A (call (.builtin id) (v :: us)) (EP X pins σ Q) X.xe s
section
variable {X : Cx} {a b : Expr} {ta tb : TE} {pos : Pos}
/- a[b] -/
theorem pe_ix {r : R2} (hr : IxR X r) (ha : PE X a ta) (hb : PE X b tb) (hs : PlainIx b) : PE X (.Subscript a b pos) (tOp r ta tb) := by
  intro pins s σ H Q I h
  exact Subscript_ (binT ha hb I h fun v u s2 x y H2 I2 rx ry q => hr a b pins s2 σ H2 x y v u Q I2 rx ry q (hs _ _))
inductive rIxL_I (K : PySem.W.Frag) (x : V) (y : V) (H : Hp) (Q : VK) : Prop
  | mk : ∀ p xs i v, x = .ref p → y = .int i → SqL K H p xs → atI xs i = some v → Q v H → rIxL_I K x y H Q
noncomputable def rIxL (K : PySem.W.Frag) : R2 := fun x y H Q => rIxL_I K x y H Q
inductive rIxS_I (x : V) (y : V) (H : Hp) (Q : VK) : Prop
  | mk : ∀ z i c, x = .str z → y = .int i → z.length ≤ sizeLine → atI z.cps.toList i = some c → Q (.str ⟨#[c]⟩) H → rIxS_I x y H Q
noncomputable def rIxS : R2 := fun x y H Q => rIxS_I x y H Q
theorem ix_list : IxR X (rIxL X.K) := by
  intro value slice pins s σ H x y v u Q I rx ry h hs
  obtain ⟨p, xs, i, z, rfl, rfl, hq, he, q⟩ := h
  cases rx
  obtain ⟨t, rfl⟩ := ry
  obtain ⟨its, r, pl, hz⟩ := I.list hq
  obtain ⟨j, h1, h2, h3, h4, h5⟩ := atI_get he
  obtain ⟨w, ew, rw'⟩ := r.get h2
  have hl := r.length
  have hn := line63
  have fin : EP X pins σ Q w s := ⟨z, H, I, rw', q⟩
  by_cases h0 : 0 ≤ i
  · have hj : i.toNat = j := by
      rw [seqIndex_of h0 h5] at h1
      exact Option.some.inj h1
    exact item_listR pl.isList h0 (by omega) (by rw [hj]; simpa using ew) fin hs
  · have hj : (i + (its.toArray.size : Int)).toNat = j := by
      rw [seqIndex_neg (by omega) h4] at h1
      rw [List.size_toArray, ← hl]
      exact Option.some.inj h1
    exact subscriptTail_builtinR (x := w) pl.isList.typeIs slot_list_getitem.lookup
      (wpAny_getItem_list_neg (Q := fun r s' => r = w ∧ EP X pins σ Q r s') pl.isList (by omega) (by rw [List.size_toArray] <;> omega) (by omega) (by rw [hj]; simpa using ew) ⟨rfl, fin⟩) hs
theorem ix_str : IxR X rIxS := by
  intro value slice pins s σ H x y v u Q I rx ry h hs
  obtain ⟨z, i, c, rfl, rfl, hz, he, q⟩ := h
  obtain ⟨t, rfl⟩ := rx
  obtain ⟨t', rfl⟩ := ry
  obtain ⟨j, h1, h2, h3, h4, h5⟩ := atI_get he
  have hl : z.cps.toList.length = z.length := by simp [Str.length]
  rw [hl] at h1 h4 h5
  have hn := line63
  exact tail_any (typeIs_str s z t) slot_str_getitem.lookup (getItem_str (c := c) (by
    have e1 : decide (i < -(2 ^ 63 : Int)) = false := decide_eq_false (by omega)
    have e2 : decide (i ≥ 2 ^ 63) = false := decide_eq_false (by omega)
    rw [e1, e2, Bool.or_false]) (by rw [h1]; simpa using h2) ⟨.str ⟨#[c]⟩, H, I.tok _, ⟨_, rfl⟩, q⟩) hs
noncomputable def flatV : V → Bool
  | .non => true
  | .bl _ => true
  | .int _ => true
  | .str _ => true
  | _ => false
/- == of flat values -/
noncomputable def eqV : V → V → Bool
  | .non, .non => true
  | .bl a, .bl b => a == b
  | .bl a, .int b => (if a then 1 else 0) == b
  | .int a, .bl b => a == (if b then 1 else 0)
  | .int a, .int b => a == b
  | .str a, .str b => a == b
  | _, _ => false
theorem eqAt_V {A : Around} {s : Shared} {y x : V} {u v : Value} (ry : RelV y u) (rx : RelV x v) (fy : flatV y = true) (fx : flatV x = true) : SeqAt.EqAt A s u v (eqV y x) := by
  cases y with
  | non =>
    cases ry
    cases x with
    | non => cases rx; exact SeqAt.EqAt.same _
    | bl b => cases rx; exact SeqAt.EqAt.none_bool b
    | int b => obtain ⟨t, rfl⟩ := rx; exact SeqAt.EqAt.none_int b t
    | str b => obtain ⟨t, rfl⟩ := rx; exact SeqAt.EqAt.none_str b t
    | _ => exact absurd (show false = true from fx) Bool.false_ne_true
  | bl a =>
    cases ry
    cases x with
    | non => cases rx; exact SeqAt.EqAt.bool_none a
    | bl b => cases rx; exact SeqAt.EqAt.bool_bool a b
    | int b => obtain ⟨t, rfl⟩ := rx; exact SeqAt.EqAt.bool_int a b t
    | str b => obtain ⟨t, rfl⟩ := rx; exact SeqAt.EqAt.bool_str a b t
    | _ => exact absurd (show false = true from fx) Bool.false_ne_true
  | int a =>
    obtain ⟨t', rfl⟩ := ry
    cases x with
    | non => cases rx; exact SeqAt.EqAt.int_none a t'
    | bl b => cases rx; exact SeqAt.EqAt.int_bool a t' b
    | int b => obtain ⟨t, rfl⟩ := rx; exact SeqAt.EqAt.int_int a t' b t
    | str b => obtain ⟨t, rfl⟩ := rx; exact SeqAt.EqAt.int_str a t' b t
    | _ => exact absurd (show false = true from fx) Bool.false_ne_true
  | str a =>
    obtain ⟨t', rfl⟩ := ry
    cases x with
    | non => cases rx; exact SeqAt.EqAt.str_none a t'
    | bl b => cases rx; exact SeqAt.EqAt.str_bool a t' b
    | int b => obtain ⟨t, rfl⟩ := rx; exact SeqAt.EqAt.str_int a t' b t
    | str b => obtain ⟨t, rfl⟩ := rx; exact SeqAt.EqAt.str_str a t' b t
    | _ => exact absurd (show false = true from fx) Bool.false_ne_true
  | _ => exact absurd (show false = true from fy) Bool.false_ne_true
/- the items' answers, read off the values (a value's own answer does not lean on its token) -/
noncomputable def eqU (x : V) (u : Value) : Bool := match u with
  | .none => eqV .non x
  | .bool b => eqV (.bl b) x
  | .int i _ => eqV (.int i) x
  | .str z _ => eqV (.str z) x
  | _ => false
theorem eqU_of {x y : V} {u : Value} (r : RelV y u) (f : flatV y = true) : eqU x u = eqV y x := by
  cases y with
  | non => cases r; rfl
  | bl b => cases r; rfl
  | int i => obtain ⟨t, rfl⟩ := r; rfl
  | str z => obtain ⟨t, rfl⟩ := r; rfl
  | _ => exact absurd (show false = true from f) Bool.false_ne_true
theorem any_eqU {x : V} {xs : List V} {us : List Value} (h : Vals xs us) (f : xs.all flatV = true) : us.any (eqU x) = xs.any fun y => eqV y x := by
  induction h with
  | nil => rfl
  | cons r t ih =>
    rw [List.all_cons, Bool.and_eq_true] at f
    rw [List.any_cons, List.any_cons, eqU_of r f.1, ih f.2]
theorem mem_eqAt {A : Around} {s : Shared} {x : V} {v : Value} (rx : RelV x v) (fx : flatV x = true) {xs : List V} {us : List Value} (h : Vals xs us) (f : xs.all flatV = true) : ∀ u ∈ us, SeqAt.EqAt A s u v (eqU x u) := by
  induction h with
  | nil => intro u hu; cases hu
  | cons r t ih =>
    intro u' hu
    rw [List.all_cons, Bool.and_eq_true] at f
    rcases List.mem_cons.mp hu with rfl | hu
    · rw [eqU_of r f.1]; exact eqAt_V r rx f.1 fx
    · exact ih f.2 u' hu
noncomputable def inV (x : V) (xs : List V) : Bool := xs.any fun y => eqV y x
/- x in a list or tuple of flat items -/
inductive rIn_I (K : PySem.W.Frag) (neg : Bool) (x : V) (y : V) (H : Hp) (Q : VK) : Prop
  | mk : ∀ p xs, y = .ref p → (SqL K H p xs ∨ SqT K H p xs) → flatV x = true → xs.all flatV = true → Q (.bl (if neg then !inV x xs else inV x xs)) H → rIn_I K neg x y H Q
noncomputable def rIn (K : PySem.W.Frag) (neg : Bool) : R2 := fun x y H Q => rIn_I K neg x y H Q
theorem op_in_seq : OpR X (compareOp .In) (rIn X.K false) := by
  intro pins s σ H x y v u Q I rx ry h
  obtain ⟨p, xs, rfl, hq, fx, fs, q⟩ := h
  cases ry
  rcases hq with hq | hq
  · obtain ⟨its, r, pl, hz⟩ := I.list hq
    refine SeqAt.in_listAt (eqU x) pl.isList (fun w hw => mem_eqAt rx fx r fs w (by simpa using hw)) ⟨.bl _, H, I, rfl, ?_⟩
    rw [show its.toArray.any (eqU x) = its.any (eqU x) by simp, any_eqU r fs]
    exact q
  · obtain ⟨its, r, pl, hz⟩ := I.tuple hq
    refine SeqAt.in_tupleAt (eqU x) pl (fun w hw => mem_eqAt rx fx r fs w (by simpa using hw)) ⟨.bl _, H, I, rfl, ?_⟩
    rw [show its.toArray.any (eqU x) = its.any (eqU x) by simp, any_eqU r fs]
    exact q
theorem call_len_seq : CallR X (.builtin "len") (fun xs H Q => ∃ p ys, xs = [.ref p] ∧ (SqL X.K H p ys ∨ SqT X.K H p ys) ∧ Q (.int ys.length) H) := by
  intro pins s σ H xs us Q I r h
  obtain ⟨p, ys, rfl, hq, q⟩ := h
  obtain ⟨u, rfl, rx⟩ := vals1 r
  cases rx
  have hn := line63
  rcases hq with hq | hq
  · obtain ⟨its, r', pl, hz⟩ := I.list hq
    have hlen := r'.length
    exact Calls.call_len_list pl.isList (by simp only [List.size_toArray] <;> omega) ⟨.int ys.length, H, I.tok _, ⟨s.toks + 1, by rw [List.size_toArray, hlen]⟩, q⟩
  · obtain ⟨its, r', pl, hz⟩ := I.tuple hq
    have hlen := r'.length
    exact len_tuple pl (by simp only [List.size_toArray] <;> omega) ⟨.int ys.length, H, I.tok _, ⟨s.toks + 1, by rw [List.size_toArray, hlen]⟩, q⟩
theorem call_list_of : CallR X (.type "list") (fun xs H Q => ∃ p ys, xs = [.ref p] ∧ (SqL X.K H p ys ∨ SqT X.K H p ys) ∧ ∀ l, H l = none → Q (.ref l) (upd H l (.lst ys))) := by
  intro pins s σ H xs us Q I r h
  obtain ⟨p, ys, rfl, hq, q⟩ := h
  obtain ⟨u, rfl, rx⟩ := vals1 r
  cases rx
  have fin : ∀ (its : List Value), Vals ys its → ys.length ≤ sizeLine → ∀ (h' : Heap) (c' : Nat), (∀ b o', s.heap.get? b = some o' → h'.get? b = some o') →
      h'.get? s.heap.objs.size = some { cls := .type "list", dict := none, data := .seq its.toArray c', slots := #[] } → EP X pins σ Q (.ref s.heap.objs.size) { s with heap := h' } := fun its r' hz h' c' kp e =>
    ⟨.ref s.heap.objs.size, _, I.laid (t' := s.toks) kp (Nat.le_refl _) (show ObjOk X.prog X.w _ h' _ (.lst ys) from ⟨hz, its, c', r', e⟩), rfl, q _ (I.hok.fresh (Nat.le_refl _))⟩
  rcases hq with hq | hq
  · obtain ⟨its, r', pl, hz⟩ := I.list hq
    have hlen := r'.length
    obtain ⟨o, ho, hc, n, hd⟩ := pl.isList
    exact call_list_seq p (.inl rfl) ho hc hd (fun h' c' kp e => fin its r' hz h' c' kp e) (by simp only [List.size_toArray] <;> omega)
  · obtain ⟨its, r', pl, hz⟩ := I.tuple hq
    have hlen := r'.length
    obtain ⟨o, ho, hc, n, hd⟩ := pl
    exact call_list_seq p (.inr rfl) ho hc hd (fun h' c' kp e => fin its r' hz h' c' kp e) (by simp only [List.size_toArray] <;> omega)
/- the value is of that builtin type -/
noncomputable def tyV (K : PySem.W.Frag) (T : String) (x : V) (H : Hp) : Prop := match x with
  | .str _ => T = "str"
  | .int _ => T = "int"
  | .ref p => (T = "list" ∧ ∃ xs, SqL K H p xs) ∨ (T = "tuple" ∧ ∃ o, K.lookup p = some o ∧ o.cls = .type "tuple" ∧ o.dict = none) ∨
      (T = "dict" ∧ ((∃ kvs, H p = some (.dK kvs)) ∨ ∃ kvs, H p = some (.dT kvs))) ∨ (T = "set" ∧ ∃ S n, H p = some (.set S n))
  | _ => False
theorem tyV_is {pins : List (Addr × Obj)} {σ : St} {H : Hp} {s : Shared} {T : String} {x : V} {v : Value} (I : Inv X pins σ H s) (r : RelV x v) (ty : tyV X.K T x H) :
    s.TypeIs v T ∧ ∀ a, v = .ref a → ∃ ob, s.heap.get? a = some ob ∧ ob.dict = none := by
  cases x with
  | str z =>
    obtain ⟨t, rfl⟩ := r
    cases (show T = "str" from ty)
    exact ⟨typeIs_str s z t, fun _ e => nomatch e⟩
  | int i =>
    obtain ⟨t, rfl⟩ := r
    cases (show T = "int" from ty)
    exact ⟨typeIs_int s i t, fun _ e => nomatch e⟩
  | ref p =>
    cases r
    rcases ty with ⟨rfl, xs, hq⟩ | ⟨rfl, o, hk, hc, hd⟩ | ⟨rfl, hk⟩ | ⟨rfl, S, n, hk⟩
    · obtain ⟨its, _, pl, _⟩ := I.list hq
      refine ⟨pl.isList.typeIs, fun a e => ?_⟩
      cases e
      obtain ⟨o, n, e, c, hd, _⟩ := pl
      exact ⟨o, e, hd⟩
    · refine ⟨⟨o, I.kIn p o hk, hc⟩, fun a e => ?_⟩
      cases e
      exact ⟨o, I.kIn _ o hk, hd⟩
    · have z : ∃ o, s.heap.get? p = some o ∧ o.ExactDict := by
        rcases hk with ⟨kvs, hk⟩ | ⟨kvs, hk⟩
        · obtain ⟨_, _, _, _, o, _, _, e, ex, _⟩ := I.hok p _ hk
          exact ⟨o, e, ex⟩
        · obtain ⟨_, _, _, _, o, _, _, e, ex, _⟩ := I.hok p _ hk
          exact ⟨o, e, ex⟩
      obtain ⟨o, e, ex⟩ := z
      refine ⟨⟨o, e, ex.1⟩, fun a e2 => ?_⟩
      cases e2
      exact ⟨o, e, ex.2.1⟩
    · obtain ⟨o, _, _, _, e, ex, _⟩ := I.hok p _ hk
      refine ⟨⟨o, e, ex.1⟩, fun a e2 => ?_⟩
      cases e2
      exact ⟨o, e, ex.2.1⟩
  | _ => exact False.elim ty
noncomputable def tBM0 (K : PySem.W.Frag) (T : String) (r : V → List V → Hp → VK → Prop) (to : TE) : TE := fun σ H Q => to σ H fun x H1 => tyV K T x H1 ∧ r x [] H1 Q
noncomputable def tBM (K : PySem.W.Frag) (T : String) (r : V → List V → Hp → VK → Prop) (to : TE) (t : TA) : TE := fun σ H Q => to σ H fun x H1 => tyV K T x H1 ∧ t σ H1 fun xs H2 => r x xs H2 Q
variable {o e : Expr} {es : List Expr} {to : TE} {t : TA} {name : Str} {apos cpos : Pos} {T id : String} {r : V → List V → Hp → VK → Prop}
theorem pe_bm0 (pa : PlainAttrs T) (slot : Slot T name id) (hty : typeOf (.builtin id) = pure (.type "method_descriptor")) (hm : MtR X id r) (ho : PE X o to)
    (hbase : attributeBase o name X.env (eval o X.env) = eval o X.env := by rfl) (hline : (apos.endLine == cpos.line) = true := by rfl) : PE X (.Call (.Attribute o name apos) [] [] cpos) (tBM0 X.K T r to) := by
  intro pins s σ H Q I h
  refine wpAny_Call_method0_late hbase hline (thn (ho pins s σ H _ I h) fun v s1 ⟨x, H1, I1, r1, ty, q1⟩ => ?_)
  obtain ⟨h1, h2⟩ := tyV_is I1 r1 ty
  exact ⟨T, id, pa, slot, hty, h1, h2, Calls.callWith_builtin rfl (PySem.evalArgs_none (hm pins s1 σ H1 x [] v [] Q I1 r1 .nil q1))⟩
theorem pe_bm (pa : PlainAttrs T) (slot : Slot T name id) (hty : typeOf (.builtin id) = pure (.type "method_descriptor")) (hm : MtR X id r) (ho : PE X o to) (ha : PA X (e :: es) t)
    (hbase : attributeBase o name X.env (eval o X.env) = eval o X.env := by rfl)
    (hfew : ((backTo cpos (starEach (e :: es) X.env)).all (fun x => !x.1) && (backToKw cpos (keywordEach [] X.env)).all (fun x => x.1.isSome)
      && decide ((e :: es).length + ([] : List Keyword).length + (if ([] : List Keyword).isEmpty then 0 else 1) < 30)) = true := by rfl)
    (hline : (apos.endLine == cpos.line) = true := by rfl) (hs : starEach (e :: es) X.env = (false, eval e X.env) :: starEach es X.env := by rfl) (hplain : (backTo cpos (starEach es X.env)).any (·.1) = false := by rfl) :
    PE X (.Call (.Attribute o name apos) (e :: es) [] cpos) (tBM X.K T r to t) := by
  intro pins s σ H Q I h
  refine wpAny_Call_method_late hbase hfew hline rfl (thn (ho pins s σ H _ I h) fun v s1 ⟨x, H1, I1, r1, ty, q1⟩ => ?_)
  obtain ⟨h1, h2⟩ := tyV_is I1 r1 ty
  refine ⟨T, id, pa, slot, hty, h1, h2, ?_⟩
  have hA := ha cpos pins s1 σ H1 _ I1 q1
  rw [hs] at hA ⊢
  refine Calls.callWith_builtin (by show (false || (backTo cpos (starEach es X.env)).any (·.1)) = false; rw [hplain] <;> rfl) (Calls.evalArgs_plain ?_)
  exact thn hA fun us s2 ⟨vs, H2, I2, r2, q2⟩ => hm pins s2 σ H2 x vs v us Q I2 r1 r2 q2
/- xs.append(e), list.index on a module's tuple .. are MtR facts of 06m -/
end
end L2
namespace L2
open PySem PySem.Spec PyProof.Rows
noncomputable def MtM (X : Cx) (id : String) (r : V → List V → Hp → VK → Prop) : Prop :=
  ∀ (pins : List (Addr × Obj)) (s : Shared) (σ : St) (H : Hp) (x : V) (xs : List V) (v : Value) (us : List Value) (Q : VK), Inv X pins σ H s → RelV x v → Vals xs us → r x xs H Q →
    wpAny (model X.prog X.w) X.A (call (.builtin id) (v :: us)) (EP X pins σ Q) X.xe s
theorem Vals.one {x : V} {us : List Value} (h : Vals [x] us) : ∃ u, us = [u] ∧ RelV x u := by
  cases h with
  | cons r t => cases t with
    | nil => exact ⟨_, rfl, r⟩
theorem Vals.zero : ∀ {us : List Value}, Vals [] us → us = []
  | _, .nil => rfl
theorem Vals.dropLast {xs : List V} {us : List Value} (h : Vals xs us) : Vals xs.dropLast us.dropLast := by
  induction h with
  | nil => exact .nil
  | cons r t ih =>
    cases t with
    | nil => exact .nil
    | cons q t' => exact .cons r ih
theorem Vals.rep {xs : List V} {us : List Value} (h : Vals xs us) : ∀ k : Nat, Vals (List.replicate k xs).flatten (List.replicate k us).flatten
  | 0 => .nil
  | k + 1 => by
    rw [List.replicate_succ, List.replicate_succ, List.flatten_cons, List.flatten_cons]
    exact Vals.append h (Vals.rep h k)
theorem erase_last {α : Type} (l : List α) : l.eraseIdx (l.length - 1) = l.dropLast := by
  induction l with
  | nil => rfl
  | cons a r ih =>
    cases r with
    | nil => rfl
    | cons b r =>
      have e : (a :: b :: r).length - 1 = ((b :: r).length - 1) + 1 := by
        have h1 : (a :: b :: r).length = r.length + 2 := rfl
        have h2 : (b :: r).length = r.length + 1 := rfl
        omega
      rw [e, List.eraseIdx_cons_succ, ih]
      all_goals rfl
theorem foldl_rep (its : List Value) : ∀ (k : Nat) (acc : List Value),
    List.foldl (fun x1 x2 => x1 ++ x2) acc.toArray (List.replicate k its.toArray) = (acc ++ (List.replicate k its).flatten).toArray
  | 0, acc => by simp
  | k + 1, acc => by
    have e : acc.toArray ++ its.toArray = (acc ++ its).toArray := by simp
    have e2 : (acc ++ its) ++ (List.replicate k its).flatten = acc ++ (List.replicate (k + 1) its).flatten := by
      rw [List.replicate_succ, List.flatten_cons, List.append_assoc]
    rw [← e2, ← foldl_rep its k (acc ++ its), ← e, List.replicate_succ, List.foldl_cons]
section
variable {X : Cx} {pins : List (Addr × Obj)} {σ : St} {H : Hp} {s : Shared} {l b : Addr} {xs ys zs : List V}
theorem Inv.lset {its its' : List Value} {n : Nat} {f : Array Value → Array Value} {t' : Nat} (I : Inv X pins σ H s) (hH : H l = some (.lst xs))
    (e : s.heap.get? l = some { cls := .type "list", data := .seq its.toArray n }) (hf : f its.toArray = its'.toArray) (hv : Vals ys its') (hz : ys.length ≤ sizeLine) :
    Inv X pins σ (upd H l (.lst ys)) { s with heap := s.heap.update l (Obj.mapSeq f), toks := t' } := by
  have q := PySem.IsL.update e f
  rw [hf] at q
  refine I.write (x := l) (e := l) (by rw [hH]; exact trivial) (.inl rfl) (fun b' u hb hu => (Heap.get?_update_other s.heap (Obj.mapSeq f) (Ne.symm hb)).trans hu) ⟨_, q⟩ ?_
  exact ⟨hz, its', _, hv, q⟩
theorem Inv.lnew {its : List Value} {t' : Nat} (I : Inv X pins σ H s) (hv : Vals ys its) (hz : ys.length ≤ sizeLine) :
    Inv X pins σ (upd H s.heap.objs.size (.lst ys)) { s with heap := s.heap.push { cls := .type "list", data := .seq its.toArray }, toks := t' } :=
  I.laid (fun _ _ q => Heap.get?_push_of_some _ q) (Nat.le_refl _) ⟨hz, its, 0, hv, Heap.get?_push_size _ rfl⟩
theorem Inv.fresh (I : Inv X pins σ H s) : H s.heap.objs.size = none := I.hok.fresh (Nat.le_refl _)
theorem Inv.lstM (I : Inv X pins σ H s) (hH : H l = some (.lst xs)) : xs.length ≤ sizeLine ∧ ∃ (its : List Value) (n : Nat), Vals xs its ∧ xs.length = its.length ∧ s.heap.get? l = some { cls := .type "list", data := .seq its.toArray n } := by
  obtain ⟨z, its, n, r, e⟩ := I.hok l _ hH
  exact ⟨z, its, n, r, r.length, e⟩
theorem notLongL {n : Nat} (h : n ≤ sizeLine) : Builtin.List.listTooLong n = false := by
  unfold Builtin.List.listTooLong
  exact decide_eq_false (by omega)
end
section
variable {X : Cx}
inductive rAppend_I (x : V) (vs : List V) (H : Hp) (Q : VK) : Prop
  | mk : ∀ l xs y, x = .ref l → vs = [y] → H l = some (.lst xs) → xs.length < sizeLine → Q .non (upd H l (.lst (xs ++ [y]))) → rAppend_I x vs H Q
noncomputable def rAppend : V → List V → Hp → VK → Prop := fun x vs H Q => rAppend_I x vs H Q
theorem mt_append : MtM X "list.append" rAppend := by
  intro pins s σ H x vs v us Q I rx rv h
  obtain ⟨l, xs, y, rfl, rfl, hH, hz, q⟩ := h
  cases rx
  obtain ⟨u, rfl, ru⟩ := rv.one
  obtain ⟨z, its, n, r, hl, e⟩ := I.lstM hH
  refine call_meets F.slot_list_append ⟨_, e, rfl⟩ F.entry_list_append (F.args_list_append_2 _ _) (PySem.list_append l its.toArray n u (by rw [List.size_toArray]; omega)) ⟨e, ?_⟩
  refine ⟨.non, _, I.lset (its' := its ++ [u]) hH e (by simp) (r.append (.cons ru .nil)) ?_, rfl, q⟩
  rw [List.length_append, List.length_singleton]
  omega
inductive rPop_I (x : V) (vs : List V) (H : Hp) (Q : VK) : Prop
  | mk : ∀ l xs y, x = .ref l → vs = [] → H l = some (.lst xs) → xs[xs.length - 1]? = some y → Q y (upd H l (.lst xs.dropLast)) → rPop_I x vs H Q
noncomputable def rPop : V → List V → Hp → VK → Prop := fun x vs H Q => rPop_I x vs H Q
theorem mt_pop : MtM X "list.pop" rPop := by
  intro pins s σ H x vs v us Q I rx rv h
  obtain ⟨l, xs, y, rfl, rfl, hH, hy, q⟩ := h
  cases rx
  have hus := rv.zero
  subst hus
  obtain ⟨z, its, n, r, hl, e⟩ := I.lstM hH
  obtain ⟨u, hu, ru⟩ := r.get hy
  have hy' : its.toArray[its.toArray.size - 1]? = some u := by
    show its.toArray[its.length - 1]? = some u
    rw [← Array.getElem?_toList, ← hl]
    exact hu
  refine call_meets F.slot_list_pop ⟨_, e, rfl⟩ F.entry_list_pop (F.args_list_pop_1 _) (MeetsSeq.list_pop_last l its.toArray n u hy' (by rw [List.size_toArray]; omega)) ⟨e, ?_⟩
  refine ⟨y, _, I.lset (its' := its.dropLast) hH e ?_ r.dropLast ?_, ru, q⟩
  · show its.toArray.eraseIdxIfInBounds (its.toArray.size - 1) = its.dropLast.toArray
    rw [List.size_toArray, List.eraseIdxIfInBounds_toArray, erase_last]
  · rw [List.length_dropLast]
    omega
inductive rCat_I (x : V) (y : V) (H : Hp) (Q : VK) : Prop
  | mk : ∀ l b xs zs, x = .ref l → y = .ref b → H l = some (.lst xs) → H b = some (.lst zs) → xs.length + zs.length ≤ sizeLine → (∀ p, H p = none → Q (.ref p) (upd H p (.lst (xs ++ zs)))) → rCat_I x y H Q
noncomputable def rCat : R2 := fun x y H Q => rCat_I x y H Q
theorem op_cat : OpR X (binaryOp .Add) rCat := by
  intro pins s σ H x y v u Q I rx ry h
  obtain ⟨l, b, xs, zs, rfl, rfl, hH, hB, hz, q⟩ := h
  cases rx
  cases ry
  obtain ⟨z, its, n, r, hl, e⟩ := I.lstM hH
  obtain ⟨z2, its2, n2, r2, hl2, e2⟩ := I.lstM hB
  refine PySem.P.add_list e e2 ?_ (by rw [List.size_toArray, List.size_toArray]; omega)
  have ea : its.toArray ++ its2.toArray = (its ++ its2).toArray := by simp
  rw [ea]
  exact ⟨.ref _, _, I.lnew (t' := s.toks) (r.append r2) (by rw [List.length_append]; omega), rfl, q _ I.fresh⟩
/- a list times an int (a negative one is nothing) -/
inductive rRep_I (x : V) (y : V) (H : Hp) (Q : VK) : Prop
  | mk : ∀ l k xs, x = .ref l → y = .int k → H l = some (.lst xs) → -(2 ^ 63) ≤ k → k < 2 ^ 63 → xs.length * k.toNat ≤ sizeLine → (∀ p, H p = none → Q (.ref p) (upd H p (.lst (List.replicate k.toNat xs).flatten))) → rRep_I x y H Q
noncomputable def rRep : R2 := fun x y H Q => rRep_I x y H Q
theorem len_rep {α : Type} (xs : List α) (k : Nat) : (List.replicate k xs).flatten.length = k * xs.length := by
  induction k with
  | zero => simp
  | succ k ih => rw [List.replicate_succ, List.flatten_cons, List.length_append, ih, Nat.succ_mul, Nat.add_comm]
theorem op_rep : OpR X (binaryOp .Mult) rRep := by
  intro pins s σ H x y v u Q I rx ry h
  obtain ⟨l, k, xs, rfl, rfl, hH, h1, h2, hz, q⟩ := h
  cases rx
  obtain ⟨t, rfl⟩ := ry
  obtain ⟨z, its, n, r, hl, e⟩ := I.lstM hH
  have hlen : its.toArray.size * k.toNat ≤ sizeLine := by rw [List.size_toArray, ← hl]; exact hz
  have hcap : ¬ its.toArray.size * k.toNat > (2 ^ 63 - 1) / 8 := by
    have : (sizeLine : Nat) ≤ (2 ^ 63 - 1) / 8 := by decide
    omega
  have hfit : ¬ (!Builtin.List.listFitsIndex k) = true := by
    rw [fitsIndex_both h1 h2]
    exact Bool.false_ne_true
  have hlong : ¬ Builtin.List.listTooLong (its.toArray.size * k.toNat) = true := by
    rw [notLongL hlen]
    exact Bool.false_ne_true
  have hnew : List.foldl (fun x1 x2 => x1 ++ x2) #[] (List.replicate (if its.toArray.isEmpty = true then 0 else k.toNat) its.toArray) = (List.replicate k.toNat its).flatten.toArray := by
    have f0 : ∀ m : Nat, List.foldl (fun x1 x2 => x1 ++ x2) #[] (List.replicate m its.toArray) = (List.replicate m its).flatten.toArray := fun m => by
      have := foldl_rep its m []
      rw [List.nil_append] at this
      exact this
    rw [f0]
    cases its with
    | nil => simp
    | cons a r' => rw [if_neg (by simp)]
  refine wpAny_binaryOp_repeat_ref (T := "list") (U := "int") (by decide) ⟨_, e, rfl⟩ (fun s' => typeIs_int s' k t) noFill_list_mul F.fills_int_mul F.slot_int_rmul repeat_list F.slot_int_index.lookup
    (call_meets F.slot_int_rmul (typeIs_int s k t) F.entry_int_rmul (F.args_int_rmul_2 _ _) (int___rmul___int_list k t l its.toArray n)
      ⟨e, rfl, ⟨_, e, rfl⟩, call_meets F.slot_list_mul ⟨_, e, rfl⟩ F.entry_list_mul (F.args_list_mul_2 _ _) (AutoListH.list___mul___list_int_3 l its.toArray n k t hfit hcap hlong) ⟨e, ?_⟩⟩)
  rw [hnew]
  exact ⟨.ref _, _, I.lnew (t' := s.toks) (r.rep k.toNat) (by rw [len_rep, Nat.mul_comm]; exact hz), rfl, q _ I.fresh⟩
end
section
variable {prog : Program} {w : World} {A : Around} {E : Value → Shared → Prop} {s : Shared}
end
section
variable {X : Cx}
end
end L2
namespace L2
open PySem PySem.Spec PyProof.Rows
section
variable {κ : Type} [DecidableEq κ]
noncomputable def valV (kvs : List (κ × V)) (k : κ) : Option V := (kvs.find? fun kv => decide (kv.1 = k)).map (·.2)
/- in its place, or at the end -/
noncomputable def putK (kvs : List (κ × V)) (k : κ) (v : V) : List (κ × V) :=
  if (kvs.any fun kv => decide (kv.1 = k)) = true then kvs.map (fun kv => if kv.1 = k then (kv.1, v) else kv) else kvs ++ [(k, v)]
noncomputable def dropK (kvs : List (κ × V)) (k : κ) : List (κ × V) := kvs.filter fun kv => decide (kv.1 ≠ k)
theorem valV_pos {p : κ × V} {r : List (κ × V)} {k : κ} (e : p.1 = k) : valV (p :: r) k = some p.2 := by simp [valV, List.find?_cons, e]
theorem valV_neg {p : κ × V} {r : List (κ × V)} {k : κ} (e : ¬ p.1 = k) : valV (p :: r) k = valV r k := by simp [valV, List.find?_cons, e]
theorem valV_any (k : κ) : ∀ kvs : List (κ × V), (kvs.any fun kv => decide (kv.1 = k)) = (valV kvs k).isSome
  | [] => rfl
  | p :: r => by
    rw [List.any_cons]
    by_cases e : p.1 = k
    · simp only [valV_pos e, decide_eq_true e, Bool.true_or, Option.isSome_some]
    · rw [valV_neg e, decide_eq_false e, Bool.false_or]; exact valV_any k r
theorem valV_snoc (k j : κ) (y : V) : ∀ kvs : List (κ × V), valV kvs k = none → valV (kvs ++ [(k, y)]) j = if j = k then some y else valV kvs j
  | [], _ => by
    by_cases e : k = j
    · rw [if_pos e.symm]; exact valV_pos (p := (k, y)) e
    · rw [if_neg (fun z => e z.symm)]; exact valV_neg (p := (k, y)) e
  | p :: r, hn => by
    rw [List.cons_append]
    have hk : ¬ p.1 = k := fun z => by rw [valV_pos z] at hn; cases hn
    rw [valV_neg hk] at hn
    have ih := valV_snoc k j y r hn
    by_cases e : p.1 = j
    · rw [valV_pos e, valV_pos e, if_neg (fun z => hk (e.trans z))]
    · rw [valV_neg e, valV_neg e, ih]
theorem length_putK (kvs : List (κ × V)) (k : κ) (v : V) : (putK kvs k v).length ≤ kvs.length + 1 := by
  unfold putK
  split
  · rw [List.length_map]; omega
  · rw [List.length_append, List.length_cons, List.length_nil]; omega
theorem putK_new {kvs : List (κ × V)} {k : κ} (v : V) (h : valV kvs k = none) : putK kvs k v = kvs ++ [(k, v)] := by
  unfold putK
  rw [valV_any, h]
  exact if_neg (by decide)
theorem RelO.isSome_eq {o : Option V} {u : Option Value} (r : RelO o u) : o.isSome = u.isSome := by
  cases o with
  | none => cases u with
    | none => rfl
    | some _ => exact (show False from r).elim
  | some _ => cases u with
    | none => exact (show False from r).elim
    | some _ => rfl
theorem RelO.getD {o : Option V} {u : Option Value} {d : V} {d' : Value} (r : RelO o u) (rd : RelV d d') : RelV (o.getD d) (u.getD d') := by
  cases o with
  | none => cases u with
    | none => exact rd
    | some _ => exact (show False from r).elim
  | some _ => cases u with
    | none => exact (show False from r).elim
    | some _ => exact r
/- raw tables of the same keys -/
theorem KV.val {kvs : List (κ × V)} {vs : List (κ × Value)} (r : KV kvs vs) (k : κ) : RelO (valV kvs k) (valueAt vs k) := by
  unfold KV at r
  induction r with
  | nil => exact True.intro
  | @cons p q ps qs h t ih =>
    obtain ⟨h1, h2⟩ := h
    by_cases e : p.1 = k
    · have e' : q.1 = k := h1.symm.trans e
      have b : valueAt (q :: qs) k = some q.2 := by simp [valueAt, List.find?_cons, e']
      rw [valV_pos e, b]; exact h2
    · have e' : ¬ q.1 = k := fun z => e (h1.trans z)
      have b : valueAt (q :: qs) k = valueAt qs k := by simp [valueAt, List.find?_cons, e']
      rw [valV_neg e, b]; exact ih
theorem KV.any {kvs : List (κ × V)} {vs : List (κ × Value)} (r : KV kvs vs) (k : κ) : (kvs.any fun kv => decide (kv.1 = k)) = vs.any fun kv => decide (kv.1 = k) := by
  unfold KV at r
  induction r with
  | nil => rfl
  | cons h t ih => rw [List.any_cons, List.any_cons, ih, h.1]
theorem KV.repl {kvs : List (κ × V)} {vs : List (κ × Value)} (r : KV kvs vs) (k : κ) {y : V} {u : Value} (ry : RelV y u) :
    KV (kvs.map fun kv => if kv.1 = k then (kv.1, y) else kv) (vs.map fun kv => if kv.1 = k then (kv.1, u) else kv) := by
  unfold KV at r ⊢
  induction r with
  | nil => exact .nil
  | @cons p q ps qs h t ih =>
    rw [List.map_cons, List.map_cons]
    refine .cons ?_ ih
    obtain ⟨h1, h2⟩ := h
    by_cases e : p.1 = k
    · rw [if_pos e, if_pos (h1.symm.trans e)]; exact ⟨h1, ry⟩
    · rw [if_neg e, if_neg (fun z => e (h1.trans z))]; exact ⟨h1, h2⟩
theorem KV.put {kvs : List (κ × V)} {vs : List (κ × Value)} (r : KV kvs vs) (k : κ) {y : V} {u : Value} (ry : RelV y u) : KV (putK kvs k y) (stored vs k u) := by
  unfold putK stored
  rw [r.any k]
  by_cases e : (vs.any fun kv => decide (kv.1 = k)) = true
  · rw [if_pos e, if_pos e]; exact r.repl k ry
  · rw [if_neg e, if_neg e]; exact Paired.snoc r ⟨rfl, ry⟩
theorem KV.drop {kvs : List (κ × V)} {vs : List (κ × Value)} (r : KV kvs vs) (k : κ) : KV (dropK kvs k) (without vs k) := by
  unfold KV at r ⊢
  unfold dropK without
  induction r with
  | nil => exact .nil
  | @cons p q ps qs h t ih =>
    obtain ⟨h1, h2⟩ := h
    rw [List.filter_cons, List.filter_cons]
    by_cases e : p.1 = k
    · have a : ¬ decide (p.1 ≠ k) = true := by simp [e]
      have b : ¬ decide (q.1 ≠ k) = true := by simp [h1.symm.trans e]
      rw [if_neg a, if_neg b]; exact ih
    · have e' : ¬ q.1 = k := fun z => e (h1.trans z)
      have a : decide (p.1 ≠ k) = true := by simp [e]
      have b : decide (q.1 ≠ k) = true := by simp [e']
      rw [if_pos a, if_pos b]; exact .cons ⟨h1, h2⟩ ih
theorem KV.length {kvs : List (κ × V)} {vs : List (κ × Value)} (r : KV kvs vs) : kvs.length = vs.length := Paired.length r
theorem dropK_le (kvs : List (κ × V)) (k : κ) : (dropK kvs k).length ≤ kvs.length := List.length_filter_le _ _
end
theorem kV_is {P : Program} {w : World} {k : Key} {u : Value} (r : RelV (kV k) u) : (mixKind P w).is k u = true := by
  cases k with
  | inl i => obtain ⟨t, e⟩ := (show ∃ t, u = Value.int i t from r); subst e; exact mixKind_int P w i t
  | inr x => obtain ⟨t, e⟩ := (show ∃ t, u = Value.str x t from r); subst e; exact mixKind_str P w x t
theorem items_are {P : Program} {w : World} {ks : List Key} {us : List Value} (r : Vals (ks.map kV) us) : ItemsAre (mixKind P w) ks us := by
  induction ks generalizing us with
  | nil => cases r; exact .nil
  | cons k ks ih =>
    cases r with
    | cons h t => exact .cons (kV_is h) (ih t)
/- raw entries of a dict with tuple keys -/
noncomputable abbrev KT (H : Hp) : List (List Key × V) → List (List Key × Addr × Value) → Prop := Paired fun p q => p.1 = q.1 ∧ H q.2.1 = some (.tup (p.1.map kV)) ∧ RelV p.2 q.2.2
theorem KT.val {H : Hp} {kvs : List (List Key × V)} {xs : List (List Key × Addr × Value)} (r : KT H kvs xs) (k : List Key) : RelO (valV kvs k) ((atKey xs k).map (·.2)) := by
  induction r with
  | nil => exact True.intro
  | @cons p q ps qs h t ih =>
    obtain ⟨h1, _, h2⟩ := h
    by_cases e : p.1 = k
    · have e' : q.1 = k := h1.symm.trans e
      have b : atKey (q :: qs) k = some q.2 := by simp [atKey, List.find?_cons, e']
      rw [valV_pos e, b]; exact h2
    · have e' : ¬ q.1 = k := fun z => e (h1.trans z)
      have b : atKey (q :: qs) k = atKey qs k := by simp [atKey, List.find?_cons, e']
      rw [valV_neg e, b]; exact ih
theorem KT.repl {H : Hp} {kvs : List (List Key × V)} {xs : List (List Key × Addr × Value)} (r : KT H kvs xs) (k : List Key) {y : V} {u : Value} (ry : RelV y u) :
    KT H (kvs.map fun kv => if kv.1 = k then (kv.1, y) else kv) (xs.map (putAt k u)) := by
  induction r with
  | nil => exact .nil
  | @cons p q ps qs h t ih =>
    rw [List.map_cons, List.map_cons]
    refine .cons ?_ ih
    obtain ⟨h1, h2, h3⟩ := h
    unfold putAt
    by_cases e : p.1 = k
    · rw [if_pos e, if_pos (h1.symm.trans e)]; exact ⟨h1, h2, ry⟩
    · rw [if_neg e, if_neg (fun z => e (h1.trans z))]; exact ⟨h1, h2, h3⟩
theorem KT.put {H : Hp} {kvs : List (List Key × V)} {xs : List (List Key × Addr × Value)} (r : KT H kvs xs) (k : List Key) {b : Addr} {y : V} {u : Value} (hb : H b = some (.tup (k.map kV))) (ry : RelV y u) :
    KT H (putK kvs k y) (storedH xs k b u) := by
  have e : (kvs.any fun kv => decide (kv.1 = k)) = (atKey xs k).isSome := by
    rw [valV_any, (r.val k).isSome_eq, Option.isSome_map]
  unfold putK storedH
  rw [e]
  by_cases q : (atKey xs k).isSome = true
  · rw [if_pos q, if_pos q]; exact r.repl k ry
  · rw [if_neg q, if_neg q]; exact Paired.snoc r ⟨rfl, hb, ry⟩
theorem KT.keeps {H H' : Hp} {kvs : List (List Key × V)} {xs : List (List Key × Addr × Value)} (r : KT H kvs xs) (ht : ∀ b ys, H b = some (.tup ys) → H' b = some (.tup ys)) : KT H' kvs xs :=
  Paired.mapP r fun _ _ z => ⟨z.1, ht _ _ z.2.1, z.2.2⟩
section
variable {P : Program} {w : World} {H : Hp} {h : Heap} {a : Addr}
theorem rd_of {u : HO} (ok : HOk P w H h) (e : Rd H a u) : ObjOk P w H h a u := e.ok ok
theorem dk_rd {kvs : List (Key × V)} (ok : HOk P w H h) (e : Rd H a (.dK kvs)) : kvs.length ≤ sizeLine ∧ (a == sysModules) = false ∧ ∃ vs, KV kvs vs ∧ h.DictOf (mixKind P w) a vs :=
  show ObjOk P w H h a (.dK kvs) from rd_of ok e
theorem dk_of {kvs : List (Key × V)} (ok : HOk P w H h) (e : H a = some (.dK kvs)) : kvs.length ≤ sizeLine ∧ (a == sysModules) = false ∧ ∃ vs, KV kvs vs ∧ h.DictOf (mixKind P w) a vs := dk_rd ok (.inl e)
/- a tracked tuple of ints and texts is a key -/
theorem key_of {ks : List Key} (ok : HOk P w H h) (e : H a = some (.tup (ks.map kV))) : (tupleKind (mixKind P w)).is h ks a := by
  obtain ⟨_, its, r, o, h1, h2, n, h3⟩ := (show ObjOk P w H h a (.tup (ks.map kV)) from ok a _ e)
  exact ⟨o, its.toArray, n, h1, h2, h3, by simpa using items_are r⟩
theorem dt_rd {kvs : List (List Key × V)} (ok : HOk P w H h) (e : Rd H a (.dT kvs)) : kvs.length ≤ sizeLine ∧ (a == sysModules) = false ∧
    ∃ xs, KT H kvs xs ∧ h.DictOfH (tupleKind (mixKind P w)) a xs := by
  obtain ⟨z, y, xs, r, o, es, ep, h1, h2, h3, h4, h5⟩ := (show ObjOk P w H h a (.dT kvs) from rd_of ok e)
  refine ⟨z, y, xs, r, o, es, ep, h1, h2, h3, h4, fun x hx => ?_, h5⟩
  have all : ∀ {l : List (List Key × V)} {m : List (List Key × Addr × Value)}, KT H l m → ∀ x ∈ m, (tupleKind (mixKind P w)).is h x.1 x.2.1 := by
    intro l m q
    induction q with
    | nil => intro x hx; exact nomatch hx
    | @cons p q ps qs hq t ih =>
      intro x hx
      rcases List.mem_cons.mp hx with e | hx
      · subst e
        exact key_of ok (by rw [← hq.1]; exact hq.2.1)
      · exact ih x hx
  exact all r x hx
theorem dt_of {kvs : List (List Key × V)} (ok : HOk P w H h) (e : H a = some (.dT kvs)) : kvs.length ≤ sizeLine ∧ (a == sysModules) = false ∧
    ∃ xs, KT H kvs xs ∧ h.DictOfH (tupleKind (mixKind P w)) a xs := dt_rd ok (.inl e)
end
/- what the dict at a holds at the key y -/
noncomputable def DGet (H : Hp) (a : Addr) (y : V) (r : Option V) : Prop :=
  (∃ kvs k, Rd H a (.dK kvs) ∧ y = kV k ∧ r = valV kvs k) ∨ ∃ kvs k b, Rd H a (.dT kvs) ∧ y = .ref b ∧ H b = some (.tup (k.map kV)) ∧ r = valV kvs k
/- the heap behind a[y] = v -/
noncomputable def DPut (H : Hp) (a : Addr) (y v : V) (H' : Hp) : Prop :=
  (∃ kvs k, H a = some (.dK kvs) ∧ y = kV k ∧ kvs.length < sizeLine ∧ H' = upd H a (.dK (putK kvs k v))) ∨
  ∃ kvs k b, H a = some (.dT kvs) ∧ y = .ref b ∧ H b = some (.tup (k.map kV)) ∧ kvs.length < sizeLine ∧ H' = upd H a (.dT (putK kvs k v))
theorem DGet.k {H : Hp} {a : Addr} {kvs : List (Key × V)} {k : Key} (e : H a = some (.dK kvs)) : DGet H a (kV k) (valV kvs k) := .inl ⟨kvs, k, .inl e, rfl, rfl⟩
theorem DPut.k {H : Hp} {a : Addr} {kvs : List (Key × V)} {k : Key} {v : V} (e : H a = some (.dK kvs)) (hl : kvs.length < sizeLine) : DPut H a (kV k) v (upd H a (.dK (putK kvs k v))) := .inl ⟨kvs, k, e, rfl, hl, rfl⟩
section
variable {X : Cx} {pins : List (Addr × Obj)} {σ : St} {H : Hp} {s : Shared} {a : Addr} {y v : V} {u r : Value} {o : Option V} {A : Around} {E : Value → Shared → Prop}
theorem Inv.big (I : Inv X pins σ H s) : sysModules < s.heap.objs.size := by
  have h : mainGlobals < s.heap.objs.size := (I.mod.glob.keeps I.bk).lt
  exact Nat.lt_trans (by decide) h
/- d[y], there -/
theorem d_getItem {Q : Value → Shared → Prop} (hu : A.units + 1 < cLine) (I : Inv X pins σ H s) (g : DGet H a y (some v)) (ry : RelV y u) (h : ∀ w' s', Inv X pins σ H s' → RelV v w' → Q w' s') :
    wpAny (model X.prog X.w) A (getItem (.ref a) u) Q E s := by
  rcases g with ⟨kvs, k, e, ey, l⟩ | ⟨kvs, k, b, e, ey, eb, l⟩
  · subst ey
    obtain ⟨z, hd, vs, rel, dd⟩ := dk_rd I.hok e
    obtain ⟨w', hw, rw'⟩ := RelO.some_of (v := v) (o := valueAt vs k) (by rw [l]; exact rel.val k)
    exact wpAny_getItem_of (kV_is ry) dd.mapOf hw (h w' _ (I.tok _) rw')
  · subst ey
    cases (show u = Value.ref b from ry)
    obtain ⟨z, hd, xs, rel, dd⟩ := dt_rd I.hok e
    obtain ⟨w', hw, rw'⟩ := RelO.some_of (v := v) (o := (atKey xs k).map (·.2)) (by rw [l]; exact rel.val k)
    obtain ⟨p, hp, hp2⟩ := Option.map_eq_some_iff.mp hw
    refine wpAny_getItem_heap (tupleKind_room_in1 hu) (key_of I.hok eb) dd hp ?_
    rw [hp2]
    exact h w' _ (I.tok _) rw'
/- y in d -/
theorem d_in {Q : Value → Shared → Prop} (hu : A.units + 1 < cLine) (I : Inv X pins σ H s) (g : DGet H a y o) (ry : RelV y u) (h : ∀ s', Inv X pins σ H s' → Q (.bool o.isSome) s') :
    wpAny (model X.prog X.w) A (compareOp .In u (.ref a)) Q E s := by
  rcases g with ⟨kvs, k, e, ey, l⟩ | ⟨kvs, k, b, e, ey, eb, l⟩
  · subst ey
    obtain ⟨z, hd, vs, rel, dd⟩ := dk_rd I.hok e
    refine wpAny_in_of (kV_is ry) hd dd.mapOf ?_
    rw [← (rel.val k).isSome_eq, ← l]
    exact h _ (I.tok _)
  · subst ey
    cases (show u = Value.ref b from ry)
    obtain ⟨z, hd, xs, rel, dd⟩ := dt_rd I.hok e
    refine wpAny_in_heap (tupleKind_room_in1 hu) (key_of I.hok eb) hd dd ?_
    have q := (rel.val k).isSome_eq
    rw [Option.isSome_map] at q
    rw [← q, ← l]
    exact h _ (I.tok _)
theorem d_notIn {Q : Value → Shared → Prop} (hu : A.units + 1 < cLine) (I : Inv X pins σ H s) (g : DGet H a y o) (ry : RelV y u) (h : ∀ s', Inv X pins σ H s' → Q (.bool (!o.isSome)) s') :
    wpAny (model X.prog X.w) A (compareOp .NotIn u (.ref a)) Q E s := by
  rcases g with ⟨kvs, k, e, ey, l⟩ | ⟨kvs, k, b, e, ey, eb, l⟩
  · subst ey
    obtain ⟨z, hd, vs, rel, dd⟩ := dk_rd I.hok e
    refine wpAny_notIn_of (kV_is ry) hd dd.mapOf ?_
    rw [← (rel.val k).isSome_eq, ← l]
    exact h _ (I.tok _)
  · subst ey
    cases (show u = Value.ref b from ry)
    obtain ⟨z, hd, xs, rel, dd⟩ := dt_rd I.hok e
    refine wpAny_notIn_heap (tupleKind_room_in1 hu) (key_of I.hok eb) hd dd ?_
    have q := (rel.val k).isSome_eq
    rw [Option.isSome_map] at q
    rw [← q, ← l]
    exact h _ (I.tok _)
/- a dict's object is replaced -/
theorem d_write {h' : Heap} {t' : Nat} {ob : HO} (I : Inv X pins σ H s) (mu : Mut (H a)) (hs : Heap.SameBut a s.heap h') (he : ∃ q, h'.get? a = some q) (new : ObjOk X.prog X.w (upd H a ob) h' a ob) :
    Inv X pins σ (upd H a ob) { s with heap := h', toks := t' } :=
  I.write (x := a) (e := a) mu (.inl rfl) (fun b q hb z => (hs.2 b hb).trans z) he new
theorem dk_new {P : Program} {w : World} {H' : Hp} {h' : Heap} {kvs : List (Key × V)} {vs : List (Key × Value)} (z : kvs.length ≤ sizeLine) (hd : (a == sysModules) = false) (rel : KV kvs vs) (dd : h'.DictOf (mixKind P w) a vs) :
    ObjOk P w H' h' a (.dK kvs) := ⟨z, hd, vs, rel, dd⟩
/- d[y] = v -/
theorem d_setItem {H' : Hp} {Q : Unit → Shared → Prop} (hu : A.units + 1 < cLine) (I : Inv X pins σ H s) (g : DPut H a y v H') (ry : RelV y u) (rv : RelV v r) (h : ∀ s', Inv X pins σ H' s' → Q () s') :
    wpAny (model X.prog X.w) A (setItem (.ref a) u r) Q E s := by
  rcases g with ⟨kvs, k, e, ey, l, eH⟩ | ⟨kvs, k, b, e, ey, eb, l, eH⟩
  · subst ey eH
    obtain ⟨z, hd, vs, rel, dd⟩ := dk_of I.hok e
    have hz : vs.length ≤ sizeLine := by rw [← rel.length]; exact z
    have hl : (putK kvs k v).length ≤ sizeLine := by have := length_putK kvs k v; omega
    refine wpAny_setItem_pairs (hsz := hz) (kV_is ry) dd fun h' dd' hs => h _ ?_
    have he : ∃ q, h'.get? a = some q := let ⟨q, _, _, hq, _⟩ := dd'; ⟨q, hq⟩
    exact d_write I (by rw [e]; exact True.intro) hs he (dk_new hl hd (rel.put k rv) dd')
  · subst ey eH
    cases (show u = Value.ref b from ry)
    obtain ⟨z, hd, xs, rel, dd⟩ := dt_of I.hok e
    have hz : xs.length ≤ sizeLine := by rw [← Paired.length rel]; exact z
    have hl : (putK kvs k v).length ≤ sizeLine := by have := length_putK kvs k v; omega
    refine wpAny_setItem_heap (hsz := hz) (tupleKind_room_in1 hu) (key_of I.hok eb) dd fun h' dd' hs => h _ ?_
    obtain ⟨q, es, ep, hq, h2, h3, h4, _, h5⟩ := dd'
    refine d_write I (by rw [e]; exact True.intro) hs ⟨q, hq⟩ ⟨hl, hd, _, (rel.put k eb rv).keeps fun c ys ec => ?_, q, es, ep, hq, h2, h3, h4, h5⟩
    rw [upd_ne (ne_of ec e (fun z => nomatch z))]
    exact ec
end
section
variable {X : Cx} {pins : List (Addr × Obj)} {σ : St} {H : Hp} {s : Shared} {a : Addr} {kvs : List (Key × V)} {k : Key} {u : Value} {A : Around} {E : Value → Shared → Prop}
/- d.pop(k[, x]), there -/
theorem d_pop {v : V} {more : List Value} {Q : Value → Shared → Prop} (I : Inv X pins σ H s) (e : H a = some (.dK kvs)) (ry : RelV (kV k) u) (l : valV kvs k = some v) (hm : more = [] ∨ ∃ x, more = [x])
    (h : ∀ w' s', Inv X pins σ (upd H a (.dK (dropK kvs k))) s' → RelV v w' → Q w' s') : wpAny (model X.prog X.w) A (call (.builtin "dict.pop") (.ref a :: u :: more)) Q E s := by
  obtain ⟨z, hd, vs, rel, dd⟩ := dk_of I.hok e
  obtain ⟨w', hw, rw'⟩ := RelO.some_of (v := v) (o := valueAt vs k) (by rw [← l]; exact rel.val k)
  have hp : (keyPart u).isSome = true := by
    cases k with
    | inl i => obtain ⟨t, q⟩ := (show ∃ t, u = Value.int i t from ry); subst q; rfl
    | inr x => obtain ⟨t, q⟩ := (show ∃ t, u = Value.str x t from ry); subst q; rfl
  have ha : argsOk "dict.pop" ⟨.ref a :: u :: more, []⟩ := by
    rcases hm with q | ⟨x, q⟩
    · subst q; exact PySem.F.args_dict_pop_2 _ _
    · subst q; exact PySem.F.args_dict_pop_3 _ _ _
  refine call_meetsIn PySem.F.slot_dict_pop dd.typeIs PySem.F.entry_dict_pop ha (meets_dict_pop_there (mixKind X.prog X.w) a (kV_is ry) more hm hp)
    ⟨vs, w', dd, by rw [← rel.length]; exact z, hw, fun h' dd' hs => h w' _ ?_ rw'⟩
  have he : ∃ q, h'.get? a = some q := let ⟨q, _, _, hq, _⟩ := dd'; ⟨q, hq⟩
  exact d_write I (by rw [e]; exact True.intro) hs he (dk_new (Nat.le_trans (dropK_le kvs k) z) hd (rel.drop k) dd')
/- len(d) -/
theorem d_len {Q : Value → Shared → Prop} (I : Inv X pins σ H s) (e : Rd H a (.dK kvs)) (h : ∀ t s', Inv X pins σ H s' → Q (.int kvs.length t) s') : wpAny (model X.prog X.w) A (call (.builtin "len") [.ref a]) Q E s := by
  obtain ⟨z, hd, vs, rel, dd⟩ := dk_rd I.hok e
  refine call_len_dict hd dd (by rw [← rel.length]; rw [sizeLine_eq] at z; omega) ?_
  rw [← rel.length]
  exact h _ _ (I.tok _)
end
/- the element of a subscription, not a slice -/
noncomputable def NoSl (i : Expr) : Prop := ∀ ov iv, subscripted i false ov iv = operate [ov, iv] (getItem ov iv)
theorem subD_of {prog : Program} {w : World} {A : Around} {E : Value → Shared → Prop} {s : Shared} {env : Env} {value slice : Expr} {pos : Pos} {T id : String} {Q : Value → Shared → Prop}
    (hl : typeLookup (.type T) "__getitem__" = pure (some (.builtin id))) (hs : NoSl slice)
    (h : wpAny (model prog w) A (eval value env) (fun o s₁ => wpAny (model prog w) A (eval slice env) (fun i s₂ => s₂.TypeIs o T ∧ wpAny (model prog w) A (getItem o i) Q E s₂) E s₁) E s) :
    wpAny (model prog w) A (eval (.Subscript value slice pos) env) Q E s := by
  refine Subscript_ (wpAny_mono h (fun o s₁ h₁ => wpAny_mono h₁ (fun i s₂ h₂ => ?_) fun _ _ x => x) fun _ _ x => x)
  obtain ⟨hT, h₂⟩ := h₂
  unfold subscriptTail
  refine wpAny_bind ?_
  rw [getitemInPython_of_ne hT.not_modules]
  refine wpAny_bind (wpAny_specialOf hT hl ?_)
  have fin : wpAny (model prog w) A (subscripted slice false o i) (fun r s₃ => wpAny (model prog w) A (letTemporaryGo value o r >>= fun _ => pure r) Q E s₃) E s₂ := by
    rw [hs o i]
    exact wpAny_operating (wpAny_mono h₂ (fun r s₃ h₃ => wpAny_bind (wpAny_letTemporaryGo (wpAny_pure h₃))) fun _ _ x => x)
  first
    | exact wpAny_pure (wpAny_bind fin)
    | exact wpAny_bind (wpAny_pure (wpAny_bind fin))
    | exact wpAny_bind fin
theorem dict_typeIs {X : Cx} {pins : List (Addr × Obj)} {σ : St} {H : Hp} {s : Shared} {a : Addr} {y : V} {o : Option V} (I : Inv X pins σ H s) (g : DGet H a y o) : s.TypeIs (.ref a) "dict" := by
  rcases g with ⟨kvs, k, e, _, _⟩ | ⟨kvs, k, b, e, _, _, _⟩
  · obtain ⟨_, _, vs, _, dd⟩ := dk_rd I.hok e
    exact dd.typeIs
  · obtain ⟨_, _, xs, _, dd⟩ := dt_rd I.hok e
    exact dd.typeIs
/- d[y] -/
inductive tDGet_I (Q : VK) (x : V) (y : V) (H2 : Hp) : Prop
  | mk : ∀ a v, x = .ref a → DGet H2 a y (some v) → Q v H2 → tDGet_I Q x y H2
noncomputable def tDGet (td ty : TE) : TE := fun σ H Q => td σ H fun x H1 => ty σ H1 fun y H2 => tDGet_I Q x y H2
/- y in d, y not in d -/
inductive tDIn_I (Q : VK) (y : V) (x : V) (H2 : Hp) : Prop
  | mk : ∀ a o, x = .ref a → DGet H2 a y o → Q (.bl o.isSome) H2 → tDIn_I Q y x H2
noncomputable def tDIn (ty td : TE) : TE := fun σ H Q => ty σ H fun y H1 => td σ H1 fun x H2 => tDIn_I Q y x H2
inductive tDNotIn_I (Q : VK) (y : V) (x : V) (H2 : Hp) : Prop
  | mk : ∀ a o, x = .ref a → DGet H2 a y o → Q (.bl (!o.isSome)) H2 → tDNotIn_I Q y x H2
noncomputable def tDNotIn (ty td : TE) : TE := fun σ H Q => ty σ H fun y H1 => td σ H1 fun x H2 => tDNotIn_I Q y x H2
/- d[y] = v -/
inductive sDPut_I (D : Ends) (σ : St) (v : V) (x : V) (y : V) (H3 : Hp) : Prop
  | mk : ∀ a H4, x = .ref a → DPut H3 a y v H4 → D.nx σ H4 → sDPut_I D σ v x y H3
noncomputable def sDPut (td ty tv : TE) : TS := fun D σ H => tv σ H fun v H1 => td σ H1 fun x H2 => ty σ H2 fun y H3 => sDPut_I D σ v x y H3
section
variable {X : Cx} {o i e value : Expr} {pos pos' tpos : Pos} {td ty tv : TE}
theorem pe_dget (hu : X.A.units + 1 < cLine) (ho : PE X o td) (hi : PE X i ty) (hs : NoSl i) : PE X (.Subscript o i pos) (tDGet td ty) := by
  intro pins s σ H Q I h
  refine subD_of PySem.F.slot_dict_getitem.lookup hs (thn (ho pins s σ H _ I h) fun u s1 ⟨x, H1, I1, rx, q1⟩ => thn (hi pins s1 σ H1 _ I1 q1) fun iv s2 ⟨y, H2, I2, ry, a, v, ex, g, q2⟩ => ?_)
  subst ex
  obtain rfl : u = Value.ref a := rx
  exact ⟨dict_typeIs I2 g, d_getItem hu I2 g ry fun w' s3 I3 rw' => ⟨v, H2, I3, rw', q2⟩⟩
theorem pc_din (hu : X.A.units + 1 < cLine) (hi : PE X i ty) (ho : PE X o td) : PC X .In i o (tDIn ty td) := by
  intro pins s σ H Q I h
  refine thn (hi pins s σ H _ I h) fun iv s1 ⟨y, H1, I1, ry, q1⟩ => thn (ho pins s1 σ H1 _ I1 q1) fun u s2 ⟨x, H2, I2, rx, a, ov, ex, g, q2⟩ => ?_
  subst ex
  obtain rfl : u = Value.ref a := rx
  exact d_in hu I2 g ry fun s3 I3 => ⟨.bl ov.isSome, H2, I3, rfl, q2⟩
theorem pc_dnotin (hu : X.A.units + 1 < cLine) (hi : PE X i ty) (ho : PE X o td) : PC X .NotIn i o (tDNotIn ty td) := by
  intro pins s σ H Q I h
  refine thn (hi pins s σ H _ I h) fun iv s1 ⟨y, H1, I1, ry, q1⟩ => thn (ho pins s1 σ H1 _ I1 q1) fun u s2 ⟨x, H2, I2, rx, a, ov, ex, g, q2⟩ => ?_
  subst ex
  obtain rfl : u = Value.ref a := rx
  exact d_notIn hu I2 g ry fun s3 I3 => ⟨.bl (!ov.isSome), H2, I3, rfl, q2⟩
theorem ps_dput (hu : X.A.units + 1 < cLine) (ho : PE X o td) (hi : PE X i ty) (hv : PE X value tv) (hs : swapsWith value (some (.Subscript o i pos')) pos.line X.env = pure false) :
    PS X (.Assign [.Subscript o i pos'] value pos) (sDPut td ty tv) := by
  intro pins s σ H D I h
  refine wpAny_Assign_Subscript (thn (hv pins s σ H _ I h) fun r s1 ⟨v, H1, I1, rv, q1⟩ => thn (ho pins s1 σ H1 _ I1 q1) fun u s2 ⟨x, H2, I2, rx, q2⟩ => thn (hi pins s2 σ H2 _ I2 q2) fun iv s3 ⟨y, H3, I3, ry, a, H4, ex, g, q3⟩ => ?_) hs
  subst ex
  obtain rfl : u = Value.ref a := rx
  exact d_setItem hu I3 g ry rv fun s4 I4 => ⟨σ, H4, I4, q3⟩
end
theorem dk_empty {P : Program} {w : World} {H : Hp} (h : Heap) (hb : sysModules < h.objs.size) : ObjOk P w H (h.push { cls := .type "dict", data := .dict #[] }) h.objs.size (.dK []) :=
  ⟨Nat.zero_le _, beq_eq_false_iff_ne.mpr (Ne.symm (Nat.ne_of_lt hb)), [], .nil, Heap.DictOf.new h⟩
/- {}, to be a dict of the kind that is wanted -/
noncomputable def tDNewK : TE := fun _ H Q => ∀ p, H p = none → Q (.ref p) (upd H p (.dK []))
section
variable {X : Cx} {pos : Pos}
theorem pe_dnewK : PE X (.Dict [] [] pos) tDNewK := fun pins s σ H Q I h =>
  wpAny_Dict_empty ⟨.ref s.heap.objs.size, _, I.laid (a := s.heap.objs.size) (o := .dK []) (t' := s.toks) (fun _ _ q => Heap.get?_push_of_some _ q) (Nat.le_refl _) (dk_empty s.heap I.big), rfl, h _ (I.hok.fresh (Nat.le_refl _))⟩
end
/- the pairs of a display, from the left -/
noncomputable def tPairs : List (TE × TE) → St → Hp → (List (V × V) → Hp → Prop) → Prop
  | [], _, H, Q => Q [] H
  | (tk, tv) :: r, σ, H, Q => tk σ H fun x H1 => tv σ H1 fun y H2 => tPairs r σ H2 fun ps H3 => Q ((x, y) :: ps) H3
noncomputable abbrev VV : List (V × V) → List (Value × Value) → Prop := Paired fun p q => RelV p.1 q.1 ∧ RelV p.2 q.2
noncomputable def PPs (X : Cx) (pos : Pos) (keys : List (Option Expr)) (values : List Expr) (trs : List (TE × TE)) : Prop :=
  ∀ (pins : List (Addr × Obj)) (s : Shared) (σ : St) (H : Hp) (Q : List (V × V) → Hp → Prop), Inv X pins σ H s → tPairs trs σ H Q →
    wpAny (model X.prog X.w) X.A (evalPairs (pairTrees keys values X.env pos)) (fun vs s' => ∃ ps H', Inv X pins σ H' s' ∧ VV ps vs ∧ Q ps H') X.xe s
theorem pps_nil {X : Cx} {pos : Pos} : PPs X pos [] [] [] := fun pins s σ H Q I h => pairTrees_nil_walk ⟨[], H, I, .nil, h⟩
theorem pps_cons {X : Cx} {pos : Pos} {k v : Expr} {ks : List (Option Expr)} {vs : List Expr} {tk tv : TE} {trs : List (TE × TE)} (hk : PE X k tk) (hv : PE X v tv) (hr : PPs X pos ks vs trs) :
    PPs X pos (some k :: ks) (v :: vs) ((tk, tv) :: trs) := fun pins s σ H Q I h =>
  pairTrees_cons_walk (thn (hk pins s σ H _ I h) fun u s1 ⟨x, H1, I1, rx, q1⟩ => thn (hv pins s1 σ H1 _ I1 q1) fun w2 s2 ⟨y, H2, I2, ry, q2⟩ =>
    thn (hr pins s2 σ H2 _ I2 q2) fun ws s3 ⟨ps, H3, I3, rel, q3⟩ => ⟨(x, y) :: ps, H3, I3, .cons ⟨rx, ry⟩ rel, q3⟩)
noncomputable def mergeK (kvs more : List (Key × V)) : List (Key × V) := more.foldl (fun acc kv => putK acc kv.1 kv.2) kvs
theorem KV.merge : ∀ {more : List (Key × V)} {rs : List (Key × Value)} {kvs : List (Key × V)} {vs : List (Key × Value)}, KV more rs → KV kvs vs → KV (mergeK kvs more) (merged vs rs) := by
  intro more rs kvs vs r
  unfold KV at r
  induction r generalizing kvs vs with
  | nil => intro q; exact q
  | @cons p q ps qs h t ih =>
    intro r0
    have e : KV (putK kvs p.1 p.2) (stored vs q.1 q.2) := by
      have := r0.put p.1 h.2
      rw [← h.1]; exact this
    exact ih e
theorem length_mergeK : ∀ (more kvs : List (Key × V)), (mergeK kvs more).length ≤ kvs.length + more.length
  | [], kvs => by show kvs.length ≤ kvs.length + 0; omega
  | p :: r, kvs => by
    have h1 := length_mergeK r (putK kvs p.1 p.2)
    have h2 := length_putK kvs p.1 p.2
    show (mergeK (putK kvs p.1 p.2) r).length ≤ _
    rw [List.length_cons]; omega
theorem carries_of {P : Program} {w : World} {kvs : List (Key × V)} {ws : List (Value × Value)} (r : VV (kvs.map fun kv => (kV kv.1, kv.2)) ws) : ∃ rs, Carries (mixKind P w) ws rs ∧ KV kvs rs := by
  induction kvs generalizing ws with
  | nil => cases r; exact ⟨[], True.intro, .nil⟩
  | cons p kvs ih =>
    cases r with
    | @cons a b as bs h t =>
      obtain ⟨rs, c, q⟩ := ih t
      obtain ⟨b1, b2⟩ := b
      exact ⟨(p.1, b2) :: rs, ⟨kV_is h.1, rfl, c⟩, .cons ⟨rfl, h.2⟩ q⟩
/- {k: v, ..} with keys ints and texts; the new dict stands empty while the pairs are made -/
noncomputable def tDisp (trs : List (TE × TE)) : TE := fun σ H Q => ∀ p, H p = none → tPairs trs σ (upd H p (.dK [])) fun ps H2 => H2 p = some (.dK []) ∧ ∃ kvs : List (Key × V), ps = kvs.map (fun kv => (kV kv.1, kv.2)) ∧ kvs.length ≤ 15 ∧ Q (.ref p) (upd H2 p (.dK (mergeK [] kvs)))
theorem pe_disp {X : Cx} {pos : Pos} {keys : List (Option Expr)} {values : List Expr} {trs : List (TE × TE)} (h : PPs X pos keys values trs) (hall : keys.all (·.isSome) = true) (hl : keys.length = values.length) (h0 : keys ≠ [])
    (h15 : keys.length ≤ 15) : PE X (.Dict keys values pos) (tDisp trs) := by
  intro pins s σ H Q I q
  have hn := I.hok.fresh (Nat.le_refl s.heap.objs.size)
  have I1 := I.laid (a := s.heap.objs.size) (o := .dK []) (h' := s.heap.push { cls := .type "dict", data := .dict #[] }) (t' := s.toks) (fun _ _ q => Heap.get?_push_of_some _ q) (Nat.le_refl _) (dk_empty s.heap I.big)
  refine wpAny_Dict_walk (knd := mixKind X.prog X.w) hall hl h0 h15 (thn (h pins _ σ _ _ I1 (q _ hn)) fun ws s2 ⟨ps, H2, I2, rel, e, kvs, ep, lk, q2⟩ => ?_)
  subst ep
  obtain ⟨rs, c, rk⟩ := carries_of (P := X.prog) (w := X.w) rel
  obtain ⟨z, hd, vs0, r0, dd⟩ := dk_of I2.hok e
  cases r0
  refine ⟨rs, c, dd, fun h' dd' hs => ⟨.ref s.heap.objs.size, _, ?_, rfl, q2⟩⟩
  have hz : (mergeK [] kvs).length ≤ sizeLine := by
    have h1 := length_mergeK kvs []
    rw [List.length_nil] at h1
    rw [sizeLine_eq]; omega
  have he : ∃ q, h'.get? s.heap.objs.size = some q := let ⟨q, _, _, hq, _⟩ := dd'; ⟨q, hq⟩
  exact d_write I2 (by rw [e]; exact True.intro) hs he (dk_new hz hd (rk.merge .nil) dd')
/- a method call o.m(e) of a built-in, with one argument: what must be seen of the text -/
structure M1 (X : Cx) (o : Expr) (m : Str) (apos : Pos) (e : Expr) (cpos : Pos) : Prop where
  base : attributeBase o m X.env (eval o X.env) = eval o X.env
  few : ((backTo cpos (starEach [e] X.env)).all (fun x => !x.1) && (backToKw cpos (keywordEach [] X.env)).all (fun x => x.1.isSome)
    && decide (([e] : List Expr).length + ([] : List Keyword).length + (if ([] : List Keyword).isEmpty then 0 else 1) < 30)) = true
  line : (apos.endLine == cpos.line) = true
  trees : backTo cpos (starEach [e] X.env) = [(false, eval e X.env)]
structure M2 (X : Cx) (o : Expr) (m : Str) (apos : Pos) (e f : Expr) (cpos : Pos) : Prop where
  base : attributeBase o m X.env (eval o X.env) = eval o X.env
  few : ((backTo cpos (starEach [e, f] X.env)).all (fun x => !x.1) && (backToKw cpos (keywordEach [] X.env)).all (fun x => x.1.isSome)
    && decide (([e, f] : List Expr).length + ([] : List Keyword).length + (if ([] : List Keyword).isEmpty then 0 else 1) < 30)) = true
  line : (apos.endLine == cpos.line) = true
  trees : backTo cpos (starEach [e, f] X.env) = [(false, eval e X.env), (false, eval f X.env)]
/- a is a dict, whatever its keys -/
noncomputable def IsD (H : Hp) (a : Addr) : Prop := (∃ kvs, Rd H a (.dK kvs)) ∨ ∃ kvs, Rd H a (.dT kvs)
theorem isD_at {X : Cx} {pins : List (Addr × Obj)} {σ : St} {H : Hp} {s : Shared} {a : Addr} (I : Inv X pins σ H s) (d : IsD H a) :
    s.TypeIs (.ref a) "dict" ∧ (∀ b, Value.ref a = .ref b → ∃ ob, s.heap.get? b = some ob ∧ ob.dict = none) ∧ (a == sysModules) = false := by
  rcases d with ⟨kvs, e⟩ | ⟨kvs, e⟩
  · obtain ⟨_, hd, vs, _, dd⟩ := dk_rd I.hok e
    refine ⟨dd.typeIs, fun b q => ?_, hd⟩
    cases q
    obtain ⟨ob, _, _, h1, h2, _⟩ := dd
    exact ⟨ob, h1, h2.2.1⟩
  · obtain ⟨_, hd, xs, _, dd⟩ := dt_rd I.hok e
    refine ⟨dd.typeIs, fun b q => ?_, hd⟩
    cases q
    obtain ⟨ob, _, _, h1, h2, _⟩ := dd
    exact ⟨ob, h1, h2.2.1⟩
section
variable {X : Cx} {pins : List (Addr × Obj)} {σ : St} {H : Hp} {s : Shared} {a : Addr} {y d : V} {u r : Value} {o : Option V} {A : Around} {E : Value → Shared → Prop}
/- d.get(y, x) -/
theorem d_get2 {Q : Value → Shared → Prop} (hu : A.units + 1 < cLine) (I : Inv X pins σ H s) (g : DGet H a y o) (ry : RelV y u) (rd : RelV d r) (h : ∀ w' s', Inv X pins σ H s' → RelV (o.getD d) w' → Q w' s') :
    wpAny (model X.prog X.w) A (call (.builtin "dict.get") [.ref a, u, r]) Q E s := by
  rcases g with ⟨kvs, k, e, ey, l⟩ | ⟨kvs, k, b, e, ey, eb, l⟩
  · subst ey
    obtain ⟨z, hd, vs, rel, dd⟩ := dk_rd I.hok e
    refine call_meetsIn PySem.F.slot_dict_get dd.typeIs PySem.F.entry_dict_get (PySem.F.args_dict_get_3 _ _ _) (meets_dict_get_default (mixKind X.prog X.w) a (kV_is ry) hd r) ⟨_, dd.mapOf, h _ _ (I.tok _) ?_⟩
    rw [l]
    exact (rel.val k).getD rd
  · subst ey
    cases (show u = Value.ref b from ry)
    obtain ⟨z, hd, xs, rel, dd⟩ := dt_rd I.hok e
    refine call_meetsIn PySem.F.slot_dict_get dd.typeIs PySem.F.entry_dict_get (PySem.F.args_dict_get_3 _ _ _) (meetsH_dict_get_default (tupleKind (mixKind X.prog X.w)) a b hd r) ⟨tupleKind_room_in1 hu, k, xs, key_of I.hok eb, dd, h _ _ (I.tok _) ?_⟩
    rw [l]
    exact (rel.val k).getD rd
end
inductive tDGet2J_I (Q : VK) (a : Addr) (y : V) (z : V) (H3 : Hp) : Prop
  | mk : ∀ o, DGet H3 a y o → Q (o.getD z) H3 → tDGet2J_I Q a y z H3
inductive tDGet2_I (ty : TE) (tx : TE) (σ : St) (Q : VK) (x : V) (H1 : Hp) : Prop
  | mk : ∀ a, x = .ref a → IsD H1 a → (ty σ H1 fun y H2 => tx σ H2 fun z H3 => tDGet2J_I Q a y z H3) → tDGet2_I ty tx σ Q x H1
noncomputable def tDGet2 (td ty tx : TE) : TE := fun σ H Q => td σ H fun x H1 => tDGet2_I ty tx σ Q x H1
/- d.pop(k): there; d.pop(k, x): there or not -/
inductive tDPop1J_I (Q : VK) (a : Addr) (y : V) (H2 : Hp) : Prop
  | mk : ∀ kvs k v, H2 a = some (.dK kvs) → y = kV k → valV kvs k = some v → Q v (upd H2 a (.dK (dropK kvs k))) → tDPop1J_I Q a y H2
inductive tDPop1_I (ty : TE) (σ : St) (Q : VK) (x : V) (H1 : Hp) : Prop
  | mk : ∀ a, x = .ref a → IsD H1 a → (ty σ H1 fun y H2 => tDPop1J_I Q a y H2) → tDPop1_I ty σ Q x H1
noncomputable def tDPop1 (td ty : TE) : TE := fun σ H Q => td σ H fun x H1 => tDPop1_I ty σ Q x H1
section
variable {X : Cx} {o e f : Expr} {apos cpos : Pos} {td ty tx : TE}
theorem pe_dget2 (hu : X.A.units + 1 < cLine) (ho : PE X o td) (he : PE X e ty) (hf : PE X f tx) (m : M2 X o "get" apos e f cpos) : PE X (.Call (.Attribute o "get" apos) [e, f] [] cpos) (tDGet2 td ty tx) := by
  intro pins s σ H Q I h
  refine wpAny_Call_method m.base m.few m.line PySem.F.plainAttrs_dict PySem.F.slot_dict_get PySem.F.type_dict_get (thn (ho pins s σ H _ I h) fun u s1 ⟨x, H1, I1, rx, a, ex, d, q1⟩ => ?_)
  subst ex
  obtain rfl : u = Value.ref a := rx
  obtain ⟨t1, t2, _⟩ := isD_at I1 d
  refine ⟨t1, t2, ?_⟩
  rw [m.trees]
  refine Calls.callWith_builtin rfl (Calls.evalArgs_plain (Calls.spliced_cons (thn (he pins s1 σ H1 _ I1 q1) fun iv s2 ⟨y, H2, I2, ry, q2⟩ =>
    Calls.spliced_cons (thn (hf pins s2 σ H2 _ I2 q2) fun fv s3 ⟨z, H3, I3, rz, ov, g, q3⟩ => Calls.spliced_nil ?_))))
  exact d_get2 hu I3 g ry rz fun w' s4 I4 rw' => ⟨_, H3, I4, rw', q3⟩
theorem pe_dpop1 (ho : PE X o td) (he : PE X e ty) (m : M1 X o "pop" apos e cpos) : PE X (.Call (.Attribute o "pop" apos) [e] [] cpos) (tDPop1 td ty) := by
  intro pins s σ H Q I h
  refine wpAny_Call_method m.base m.few m.line PySem.F.plainAttrs_dict PySem.F.slot_dict_pop PySem.F.type_dict_pop (thn (ho pins s σ H _ I h) fun u s1 ⟨x, H1, I1, rx, a, ex, d, q1⟩ => ?_)
  subst ex
  obtain rfl : u = Value.ref a := rx
  obtain ⟨t1, t2, _⟩ := isD_at I1 d
  refine ⟨t1, t2, ?_⟩
  rw [m.trees]
  refine Calls.callWith_builtin rfl (Calls.evalArgs_plain (Calls.spliced_cons (thn (he pins s1 σ H1 _ I1 q1) fun iv s2 ⟨y, H2, I2, ry, kvs, k, v, ea, ey, l, q2⟩ => Calls.spliced_nil ?_)))
  subst ey
  exact d_pop I2 ea ry l (.inl rfl) fun w' s3 I3 rw' => ⟨v, _, I3, rw', q2⟩
end
section
variable {X : Cx} {pins : List (Addr × Obj)} {σ : St} {H : Hp} {s : Shared} {a : Addr} {kvs : List (Key × V)} {A : Around} {E : Value → Shared → Prop}
end
section
variable {X : Cx} {pins : List (Addr × Obj)} {σ : St} {H : Hp} {s : Shared} {a : Addr} {y : V} {u : Value} {A : Around} {E : Value → Shared → Prop}
end
end L2
namespace Att
open PySem PySem.W PySem.Calls PyProof.Rows
theorem ints_of_wellAll {P : Params} {h : Heap} : ∀ (ns : List Int) (vs : List Value), WellAll P h vs (ns.map WData.int) → IntsAre vs ns := by
  intro ns
  induction ns with
  | nil =>
    intro vs w
    rw [List.map_nil] at w
    cases w
    exact .nil
  | cons n ns ih =>
    intro vs w
    rw [List.map_cons] at w
    cases w with
    | cons a b =>
      cases a
      exact .cons _ _ (ih _ b)
theorem script_of {l : OpenLaw} {n : Nat} (hn : l.most = some n) {P : Params} {h : Heap} {args : List WData} {vals : List Value}
    (hpre : l.row.toRowW.claim.pre args = true) (hwl : WellAll P h vals args) :
    ∃ a vs ns, vals = [Value.ref a] ∧ args = [WData.list (ns.map WData.int)] ∧ h.get? a = some { cls := .type "list", data := .seq vs.toArray } ∧ IntsAre vs ns ∧ ns.length ≤ n := by
  have hsh : WShape.hasAll [] args [.list .int] = true := (pre_splitW hpre).1
  have hc : l.pre.holds [] { args := args } = true := (pre_splitW hpre).2
  obtain ⟨d, r, rfl, h1, h2⟩ := hasAllW_cons hsh
  obtain rfl := hasAllW_nil h2
  obtain ⟨xs, rfl, h3⟩ := hasW_list h1
  obtain ⟨ns, rfl⟩ := items_int h3
  have hlen : ns.length ≤ n := by
    unfold OpenLaw.pre at hc
    have h4 : (WTm.not (.lt (.lit (.int (n : Int))) (.len (.arg 0)))).holds [] { args := [.list (ns.map .int)] } = true := by
      have h4 := (holds_andW hc).1
      rw [hn] at h4
      exact h4
    have h5 := condW_of h4 (w_not (w_lt w_lit (w_len_list (w_arg rfl))))
    rw [List.length_map] at h5
    refine Nat.le_of_not_lt fun q => ?_
    have q' : (n : Int) < ((ns.length : Nat) : Int) := by omega
    first
      | (rw [decide_eq_true q'] at h5; exact absurd h5 (by decide))
      | (simp at h5; omega)
  cases hwl with
  | cons w1 w2 =>
    cases w2
    cases w1 with
    | list ho hall => exact ⟨_, _, ns, rfl, rfl, ho, ints_of_wellAll ns _ hall, hlen⟩
theorem post_true (l : OpenLaw) (args : List WData) : l.row.toRowW.claim.post args (.bool true) args = true :=
  postW_of (r := l.row.toRowW) (X := (true == true))
    (show WShape.has [] (.bool true) .bool = true by first | rfl | decide | simp [WShape.has, WShape.arms, WShape.armsAll])
    (show (WTm.eq .res (.lit (.bool true))).value [] { args := args, res := some (.bool true), after := args } = some (.bool (true == true)) from w_eq_bool (w_res rfl) w_lit) rfl
/- the same from a codeAny of the CALL (for a layer whose function contracts speak of calls) -/
theorem attach_call {l : OpenLaw} {n : Nat} {q : Program} {loose : List Str} {XP : (Str → Option Value) → Heap → Prop} {YP : World → Heap → Prop} {d : DefRec}
    (hn : l.most = some n) (hdf : d.params.defaults = [])
    (call : ∀ (w : World) (s₀ s₁ : Shared) (mg mb : Str → Option Value) (fa : Addr) (o : Obj) (pm cd doc : Value) (a : Addr) (vs : List Value) (ns : List Int),
      Ground q loose [] XP w s₀ mg mb s₁.heap → YP w s₁.heap →
      s₁.heap.get? fa = some o → o.data = .func (docDef d.name d.params d.body d.scope pm cd doc) → s₁.heap.CodeRec cd d.name → mg d.name = some (.ref fa) →
      s₁.heap.get? a = some { cls := .type "list", data := .seq vs.toArray } → IntsAre vs ns → ns.length ≤ n → s₁.gens = #[] →
      codeAny (model l.prog w) callerA (.call (.ref fa) ⟨[.ref a], []⟩) (fun r s' => r = .ok (.ret (.bool true)) ∧ OldK s₁.heap s'.heap ∧ s'.os = s₁.os ∧ AllBare s'.gens) s₁) :
    WalkO q loose XP YP l.row.toRowW d [] (fun f vs => PySem.call f vs) := by
  intro w s₀ s₁ mg mb G Y fa o pm cd doc dV kV ho hd hcd hD hmg hg args vals as hpre hlay hrd hwl hlo
  obtain rfl : dV = .none := Dflts.none hD hdf
  obtain rfl : kV = .none := Dflts.noKw hD
  obtain ⟨a, vs, ns, rfl, rfl, hobj, hints, hlen⟩ := script_of hn hpre hwl
  refine enter_call (codeAny_mono (call w s₀ s₁ mg mb fa o pm cd doc a vs ns G Y ho (fd_plain hd) hcd hmg hobj hints hlen hg) fun r s' hq => ?_)
  obtain ⟨rfl, h2, h3, h4⟩ := hq
  exact ⟨.inl ⟨.bool true, .bool true, [], rfl, fun _ => rfl, .bool true, post_true l _, fun _ => ⟨List.Pairwise.nil, fun _ hm => (nomatch hm)⟩⟩, h2, h3, h4⟩
section
variable {prog : Program} {w : World} {A : Around} {E : Value → Shared → Prop} {s : Shared} {K : Frag}
end
end Att
namespace L2
open PySem PySem.Spec PyProof.Rows
theorem vals_ints {vs : List Value} {ns : List Int} (h : IntsAre vs ns) : Vals (ns.map V.int) vs := by
  induction h with
  | nil => exact .nil
  | cons n t h ih => exact .cons ⟨t, rfl⟩ ih
/- nothing is tracked but the script, known to the object (or it is an object of the module) -/
noncomputable def Only (H : Hp) : Prop := ∀ b, H b = none ∨ ∃ o xs, H b = some (.frz o (.lst xs))
/- THE HEAD: the law's promise, at the heap behind the top. F, the promise of the law's def, may use that base is part of the heap (so K.In base, base.Ns mainGlobals mg stand in Mod) -/
theorem law_call {P : Program} {w : World} {K : PySem.W.Frag} {mg mb : Str → Option Value} {CX : CXT} {k : Nat} {fa a : Addr} {fd : FuncData} {x : Str} {sp : Sp} {s₁ : Shared} {vs : List Value} {ns : List Int}
    (KX : K.In s₁.heap) (hns : s₁.heap.Ns mainGlobals mg) (hb : s₁.heap.Ns builtinsNs mb) (hbb : ∀ x : Str, x ≠ "__name__" → mb x = bootBuiltins x) (hlim : s₁.heap.NoLimit) (hg : s₁.gens = #[])
    (ha : s₁.heap.get? a = some { cls := .type "list", data := .seq vs.toArray }) (hi : IntsAre vs ns) (hl : ns.length ≤ sizeLine) (hr : Room k callerA)
    (F : ∀ base : Heap, K.In base → base.Ns mainGlobals mg → FnOk P w K mg base CX k fa fd [x] sp) (hbind : ∀ (s : Shared) (u : Value), BindsTo s fd ⟨[u], []⟩ [(x, u)])
    (hsp : ∀ H : Hp, Only H → SqL K H a (ns.map V.int) → sp [.ref a] H (fun v _ => v = .bl true) fun _ _ _ => False)
    (hCX : ∀ H e s', CX [] H s₁ (fun _ _ _ => False) e s' → False) :
    codeAny (model P w) callerA (.call (.ref fa) ⟨[.ref a], []⟩) (fun r s' => r = .ok (.ret (.bool true)) ∧ OldK s₁.heap s'.heap ∧ s'.os = s₁.os ∧ AllBare s'.gens) s₁ := by
  have rv := vals_ints hi
  have lenV := hi.length
  -- from an abstract heap in which nothing but the script may be tracked
  have core : ∀ H : Hp, Only H → SqL K H a (ns.map V.int) → HOk P w H s₁.heap → (∀ b, H b ≠ none → b = a) → (H a ≠ none → K.lookup a = none) →
      codeAny (model P w) callerA (.call (.ref fa) ⟨[.ref a], []⟩) (fun r s' => r = .ok (.ret (.bool true)) ∧ OldK s₁.heap s'.heap ∧ s'.os = s₁.os ∧ AllBare s'.gens) s₁ := by
    intro H hO hS hok hA hK
    have base_of : ∀ {b : Addr} {o : Obj}, s₁.heap.get? b = some o → H b = none → (hidT s₁.heap H).get? b = some o := fun e n => hidT_get e n
    have noA : ∀ {b : Addr} {o : Obj} {es : Array DictEntry} {ep : Nat}, s₁.heap.get? b = some o → o.data = .dict es ep → H b = none := fun {b o es ep} e d => by
      cases q : H b with
      | none => rfl
      | some u =>
        have e' : b = a := hA b (by rw [q]; simp)
        subst e'
        rw [ha] at e; cases e
        have d' : Data.seq vs.toArray _ = Data.dict es ep := d
        cases d'
    have nsK : ∀ {b : Addr} {m : Str → Option Value}, s₁.heap.Ns b m → (hidT s₁.heap H).Ns b m := fun {b m} ⟨o, es, ep, e, d, r⟩ => ⟨o, es, ep, base_of e (noA e d), d, r⟩
    have hKb : K.In (hidT s₁.heap H) := fun b o e => base_of (KX b o e) (by
      cases q : H b with
      | none => rfl
      | some u =>
        have e' : b = a := hA b (by rw [q]; simp)
        subst e'
        rw [hK (by rw [q]; simp)] at e; cases e)
    have hM : Mod K mg (hidT s₁.heap H) := ⟨hKb, nsK hns, ⟨mb, nsK hb, hbb⟩, let ⟨mc, h1, h2⟩ := hlim; ⟨mc, nsK h1, h2⟩⟩
    have e0 : Env0 P w K mg (hidT s₁.heap H) callerA [] s₁ H := ⟨rfl, hM, fun b o e => of_hidT e, Nat.le_of_eq (hidT_size _ _), trivial, fun b hb => absurd (show b ∈ ([] : List Addr) from hb) (by simp), hok, .of_eq hg⟩
    refine codeAny_mono ((F _ hKb (nsK hns)).run callerA [] s₁ H ⟨[.ref a], []⟩ [.ref a] [.ref a] _ _ hr e0 (hbind s₁ (.ref a)) (.cons rfl .nil) (hsp H hO hS)) fun r s' h => ?_
    cases r with
    | error e => exact (hCX H e s' h).elim
    | ok fl =>
      cases fl with
      | next => exact False.elim h
      | brk => exact False.elim h
      | cont => exact False.elim h
      | ret u =>
        obtain ⟨v, H', os, bare, un, hok', r', q⟩ := h
        have q' : v = .bl true := q
        subst q'
        obtain rfl : u = Value.bool true := r'
        refine ⟨rfl, OldK.of_keep fun b o e => ?_, os, bare⟩
        cases q : H b with
        | none => exact un.keep b o e q (by intro z; exact absurd (show b ∈ ([] : List Addr) from z) (by simp)) (by simp)
        | some u =>
          rcases hO b with z | ⟨ob, xs, z⟩
          · rw [q] at z; cases z
          · have z2 := un.frzs b ob _ z
            obtain ⟨e1, _⟩ := hok b _ z
            obtain ⟨e2, _⟩ := hok' b _ z2
            rw [e] at e1; cases e1
            exact e2
  cases hk : K.lookup a with
  | some o =>
    -- the script is one of the module's own objects
    have e := KX a o hk
    rw [ha] at e
    cases e
    refine core (fun _ => none) (fun _ => .inl rfl) (.inr ⟨_, vs.toArray, _, hk, rfl, rfl, rfl, by rw [List.size_toArray, lenV]; exact hl, by simpa using rv⟩) (fun b u z => by have z' : (none : Option HO) = some u := z; cases z') (fun b z => absurd rfl z) fun z => absurd rfl z
  | none =>
    refine core (fun b => if b = a then some (.frz { cls := .type "list", data := .seq vs.toArray } (.lst (ns.map V.int))) else none) (fun b => ?_) (.inl (.inr ⟨{ cls := .type "list", data := .seq vs.toArray }, if_pos rfl⟩)) (fun b u z => ?_) (fun b z => ?_) fun _ => hk
    · by_cases hb : b = a
      · exact .inr ⟨_, _, if_pos hb⟩
      · exact .inl (if_neg hb)
    · by_cases hb : b = a
      · have z' := (if_pos hb).symm.trans z
        cases z'
        subst hb
        exact ⟨ha, by rw [List.length_map]; exact hl, vs, _, rv, ha⟩
      · have z' := (if_neg hb).symm.trans z
        cases z'
    · by_cases hb : b = a
      · exact hb
      · exact absurd (if_neg hb) z
end L2
namespace L2
open PySem PySem.Spec PyProof.Rows
/- the goal that k_head leaves (case hc), from the law's promise. F gives the function object fd (K's own) once, then the promise over every base -/
theorem walk_of {l : PySem.W.OpenLaw} {n k : Nat} {q : Program} {loose : List Str} {XP : (Str → Option Value) → Heap → Prop} {YP : World → Heap → Prop} {d : DefRec} {K : Params → PySem.W.Frag} {CX : World → CXT} {sp : World → Sp} {x : Str}
    (hn : l.most = some n) (hn2 : n ≤ sizeLine) (hdf : d.params.defaults = []) (hr : Room k callerA)
    (hY : ∀ (w : World) (h : Heap), YP w h → (K w.params).In h)
    (F : ∀ (w : World) (mg : Str → Option Value) (fa : Addr) (h : Heap), (K w.params).In h → h.Ns mainGlobals mg → mg d.name = some (.ref fa) →
      ∃ fd : FuncData, (∀ (s : Shared) (u : Value), BindsTo s fd ⟨[u], []⟩ [(x, u)]) ∧
        ∀ base : Heap, (K w.params).In base → base.Ns mainGlobals mg → FnOk l.prog w (K w.params) mg base (CX w) k fa fd [x] (sp w))
    (hsp : ∀ (w : World) (H : Hp) (a : Addr) (ns : List Int), ns.length ≤ n → Only H → SqL (K w.params) H a (ns.map V.int) → sp w [.ref a] H (fun v _ => v = .bl true) fun _ _ _ => False)
    (hCX : ∀ (w : World) (H : Hp) (s : Shared) (e : Value) (s' : Shared), CX w [] H s (fun _ _ _ => False) e s' → False) :
    PySem.W.WalkO q loose XP YP l.row.toRowW d [] (fun f vs => PySem.call f vs) := by
  refine Att.attach_call hn hdf fun w s₀ s₁ mg mb fa o pm cd doc a vs ns G Y ho hd hcd hmg hobj hints hlen hg => ?_
  have KX := hY w _ Y
  obtain ⟨fd, hb, hF⟩ := F w mg fa _ KX G.T.g hmg
  exact law_call KX G.T.g G.T.b G.T.builtins G.T.nolimit hg hobj hints (Nat.le_trans hlen hn2) hr hF hb (fun H hO hS => hsp w H a ns hlen hO hS) fun H e s' => hCX w H s₁ e s'
end L2
namespace L2
open PySem PySem.Spec PyProof.Rows
/- the j-th statement of a class's body -/
noncomputable def inClass (s : Stmt) (j : Nat) : Stmt := match s with
  | .ClassDef _ _ _ body _ _ _ _ _ _ _ => body.getD j (.Pass ⟨0, 0, 0, 0⟩)
  | _ => .Pass ⟨0, 0, 0, 0⟩
noncomputable def defArgs (s : Stmt) : Arguments := match s with
  | .FunctionDef _ a _ _ _ _ _ _ _ _ => a
  | _ => { posonlyargs := [], args := [], vararg := none, kwonlyargs := [], kw_defaults := [], kwarg := none, defaults := [] }
noncomputable def defBody (s : Stmt) : List Stmt := match s with
  | .FunctionDef _ _ b _ _ _ _ _ _ _ => b
  | _ => []
noncomputable def defScope (s : Stmt) : Scope := match s with
  | .FunctionDef _ _ _ _ _ _ sc _ _ _ => sc
  | _ => { kind := .function, names := [], isGenerator := false, isCoroutine := false }
noncomputable abbrev CX0 : CXT := fun _ _ _ _ _ _ => False
noncomputable abbrev E0 : XK := fun _ _ _ => False
theorem pass0 {X : Cx} : Passes CX0 X E0 := fun _ _ _ _ _ _ _ h => h.elim
structure Fun (K : PySem.W.Frag) (x qual : Str) (st : Stmt) (f : Addr) (fd : FuncData) : Prop where
  ex : ∃ (oc : Value) (od : Option Addr) (kV doc pm : Value) (an : Option Addr) (cdv ct : Value) (osl : Array (Option Value)),
    fd = PySem.W.fnOf x qual (defArgs st) (defBody st) (defScope st) .none kV doc pm an cdv ct ∧ K.lookup f = some ⟨oc, od, .func fd, osl⟩ ∧ PySem.W.codeIn K cdv qual = true
  kp : PySem.W.keepIn K (.ref f) = true
section
variable {P : Program} {w : World} {K : PySem.W.Frag} {mg : Str → Option Value} {base : Heap}
/- THE RULE for a def: its body as a term of rules, and the reading of that term -/
theorem Fun.ok {x qual : Str} {st : Stmt} {f : Addr} {fd : FuncData} {N ps : List Str} {k : Nat} {sp : Sp} (F : Fun K x qual st f fd) (S : FnScope N ps (defScope st)) (len : ∀ vs H Q E, sp vs H Q E → vs.length = ps.length)
    (hbody : ∀ (cdv : Value) (A : Around) (outer : List Env) (s : Shared) (H : Hp) (vs : List V) (Q : VK) (E : XK), Room k (A.deeper (envOfC qual (defScope st) s.heap.objs.size f cdv)) → sp vs H Q E →
      ∃ t, PSs (cxOf CX0 P w K mg base N qual (defScope st) f cdv A outer s H E).nox (defBody st) t ∧ t { nx := fun _ H' => Q .non H', rt := Q } (start N vs) H) : FnOk P w K mg base CX0 (k + 1) f fd ps sp := by
  obtain ⟨oc, od, kV, doc, pm, an, cdv, ct, osl, rfl, lk, hcd⟩ := F.ex
  refine fn_of lk hcd S len fun A outer s H vs Q E hr hsp => ?_
  obtain ⟨t, h, q⟩ := hbody cdv A outer s H vs Q E hr hsp
  exact ⟨t, h.nox, q⟩
/- how its arguments bind (no defaults): h is «fun _ _ _ _ _ _ us hl => match us, hl with | [_, _], _ => rfl», one _ a parameter -/
theorem Fun.binds {x qual : Str} {st : Stmt} {f : Addr} {fd : FuncData} {ps : List Str} (F : Fun K x qual st f fd)
    (h : ∀ (kV doc pm : Value) (an : Option Addr) (cdv ct : Value) (us : List Value), us.length = ps.length → bindArgs (PySem.W.fnOf x qual (defArgs st) (defBody st) (defScope st) .none kV doc pm an cdv ct) ⟨us, []⟩ = pure (ps.zip us)) : Binds K fd ps [] := by
  obtain ⟨oc, od, kV, doc, pm, an, cdv, ct, osl, rfl, lk, hcd⟩ := F.ex
  exact .all (h kV doc pm an cdv ct)
theorem fun_mk {x qual : Str} {st : Stmt} {f : Addr} {oc : Value} {od an : Option Addr} {osl : Array (Option Value)} {kV doc pm cdv ct : Value} (l : K.lookup f = some ⟨oc, od, .func (PySem.W.fnOf x qual (defArgs st) (defBody st) (defScope st) .none kV doc pm an cdv ct), osl⟩)
    (c : PySem.W.codeIn K cdv qual = true) (k : PySem.W.keepIn K (.ref f) = true) : Fun K x qual st f (PySem.W.fnOf x qual (defArgs st) (defBody st) (defScope st) .none kV doc pm an cdv ct) := ⟨⟨oc, od, kV, doc, pm, an, cdv, ct, osl, rfl, l, c⟩, k⟩
end
theorem hu_of {A : Around} {k : Nat} (hr : Room k A) : A.units + 1 < cLine := Nat.lt_of_le_of_lt (Nat.add_le_add_left (by decide : 1 ≤ 64) _) hr.units
theorem small1000 {n : Nat} (h : n ≤ 1000) : n < sizeLine := Nat.lt_of_le_of_lt h (by decide)
section
variable {X : Cx}
theorem pv (i : Nat) {x : Str} {pos : Pos} (hN : X.N[i]? = some x := by rfl) (hv : Vis X.env.scope x := by first | exact Or.inl rfl | exact Or.inr (Or.inl rfl) | exact Or.inr (Or.inr rfl)) (hd : (x == ("__debug__" : Str)) = false := by decide)
    (hcd : (x == ("__classdict__" : Str)) = false := by decide) : PE X (.Name x pos) (tVar i) := pe_var hN hv hd hcd
end
theorem iteF {A B : Prop} (h : B) : if false = true then A else B := by
  rw [if_neg Bool.false_ne_true]
  exact h
theorem iteT {A B : Prop} (h : A) : if true = true then A else B := by
  rw [if_pos rfl]
  exact h
theorem ite2 {c A B : Prop} [Decidable c] (h1 : c → A) (h2 : ¬ c → B) : if c then A else B := by
  by_cases h : c
  · rw [if_pos h]
    exact h1 h
  · rw [if_neg h]
    exact h2 h
/- all that was tracked is as it was -/
noncomputable def Same (H H' : Hp) : Prop := ∀ b o, H b = some o → H' b = some o
theorem Same.refl (H : Hp) : Same H H := fun _ _ h => h
theorem Same.trans {H H1 H2 : Hp} (a : Same H H1) (b : Same H1 H2) : Same H H2 := fun c o h => b c o (a c o h)
theorem Same.free {H H' : Hp} (e : Same H H') {l : Addr} (h : H' l = Option.none) : H l = Option.none := by
  cases q : H l with
  | none => rfl
  | some o =>
    rw [e l o q] at h
    cases h
theorem Same.seq {K : PySem.W.Frag} {H H' : Hp} {a : Addr} {xs : List V} (e : Same H H') (h : SqL K H a xs) : SqL K H' a xs := by
  rcases h with (h | ⟨o, h⟩) | h
  · exact .inl (.inl (e _ _ h))
  · exact .inl (.inr ⟨o, e _ _ h⟩)
  · exact .inr h
end L2
namespace L2
open PySem PySem.Spec PyProof.Rows
section
variable {X : Cx}
/- len of a dict -/
theorem call_lenD : CallR X (.builtin "len") (fun xs H Q => ∃ a kvs, xs = [V.ref a] ∧ H a = some (.dK kvs) ∧ Q (.int kvs.length) H) := by
  intro pins s σ H xs us Q I r h
  obtain ⟨a, kvs, rfl, ha, q⟩ := h
  obtain ⟨u, rfl, ru⟩ := vals1 r
  cases ru
  exact d_len I (.inl ha) fun t s' I' => ⟨.int kvs.length, H, I', ⟨t, rfl⟩, q⟩
end
section
variable {κ : Type} [DecidableEq κ]
theorem dropK_pos {p : κ × V} {r : List (κ × V)} {k : κ} (e : p.1 = k) : dropK (p :: r) k = dropK r k := by
  unfold dropK
  rw [List.filter_cons, if_neg (by simp [e])]
theorem dropK_neg {p : κ × V} {r : List (κ × V)} {k : κ} (e : ¬ p.1 = k) : dropK (p :: r) k = p :: dropK r k := by
  unfold dropK
  rw [List.filter_cons, if_pos (by simp [e])]
end
end L2
set_option Elab.async false
set_option linter.all false
set_option maxRecDepth 100000
set_option maxHeartbeats 4000000
namespace L2
open PySem PySem.Spec PyProof.Rows
/- the cells that a comprehension takes from around it -/
noncomputable def closOf (cells : List (Str × Addr)) : List (Str × NameKind) → List (Str × Addr) → List (Str × Addr)
  | [], cs => cs
  | (n, k) :: r, cs => closOf cells r (if k == .free then (match cells.lookup n with | some c => (n, c) :: cs | none => cs) else cs)
theorem closureFor_of {scope : Scope} {env : Env} (h : ∀ y ∈ scope.names, y.2 = .free → ∃ c, env.cells.lookup y.1 = some c) : closureFor scope env = pure (closOf env.cells scope.names []) := by
  unfold closureFor
  generalize ([] : List (Str × Addr)) = cs
  revert cs
  generalize scope.names = names at h
  induction names with
  | nil => intro cs; rfl
  | cons p r ih =>
    obtain ⟨n, k⟩ := p
    intro cs
    have ih' := ih fun y hy => h y (List.mem_cons_of_mem _ hy)
    by_cases hk : k = .free
    · subst hk
      obtain ⟨c, hc⟩ := h (n, .free) List.mem_cons_self rfl
      have e : cellOf env n = pure c := by unfold cellOf; rw [hc] <;> rfl
      dsimp only at hc ⊢
      rw [List.forIn_cons]
      simp only [beq_self_eq_true, if_true, closOf, hc]
      rw [e]
      exact ih' _
    · have hb : (k == NameKind.free) = false := by simpa using hk
      dsimp only
      rw [List.forIn_cons]
      simp only [hb, Bool.false_eq_true, if_false, closOf]
      exact ih' _
theorem closOf_sub {cells : List (Str × Addr)} : ∀ (names : List (Str × NameKind)) (cs : List (Str × Addr)) {y : Str} {c : Addr}, (closOf cells names cs).lookup y = some c → cells.lookup y = some c ∨ cs.lookup y = some c
  | [], cs, y, c, h => .inr h
  | (n, k) :: r, cs, y, c, h => by
    rcases closOf_sub r _ (show (closOf cells r _).lookup y = some c from h) with h1 | h1
    · exact .inl h1
    · split at h1
      · split at h1
        · rename_i c' hc'
          rw [List.lookup_cons] at h1
          split at h1
          · rename_i e
            cases h1
            exact .inl (by rw [eq_of_beq e]; exact hc')
          · exact .inr h1
        · exact .inr h1
      · exact .inr h1
theorem closOf_keep {cells : List (Str × Addr)} : ∀ (names : List (Str × NameKind)) (cs : List (Str × Addr)) {y : Str}, (∃ c, cs.lookup y = some c) → ∃ c, (closOf cells names cs).lookup y = some c
  | [], cs, y, h => h
  | (n, k) :: r, cs, y, h => by
    refine closOf_keep r _ ?_
    split
    · split
      · rw [List.lookup_cons]
        split
        · exact ⟨_, rfl⟩
        · exact h
      · exact h
    · exact h
theorem closOf_has {cells : List (Str × Addr)} : ∀ (names : List (Str × NameKind)) (cs : List (Str × Addr)) {y : Str}, (y, NameKind.free) ∈ names → (∃ c, cells.lookup y = some c) → ∃ c, (closOf cells names cs).lookup y = some c
  | (n, k) :: r, cs, y, hy, hc => by
    rcases List.mem_cons.mp hy with e | hy
    · cases e
      refine closOf_keep r _ ?_
      obtain ⟨c, hc⟩ := hc
      simp only [beq_self_eq_true, if_true, hc]
      exact ⟨c, by simp [List.lookup_cons]⟩
    · exact closOf_has r _ hy hc
noncomputable def relF (env : Env) (p : Str × NameKind) : Str × NameKind := if (p.2 == NameKind.free && env.scope.kind == .function && env.kindOf p.1 == some .cell) = true then (p.1, NameKind.cell) else (p.1, p.2)
theorem relF_free {env : Env} {names : List (Str × NameKind)} {x : Str} (h : names.lookup x = some .free) : (names.map (relF env)).lookup x = some .cell ∨ (names.map (relF env)).lookup x = some .free := by
  induction names with
  | nil => exact nomatch h
  | cons nk r ih =>
    obtain ⟨n, k⟩ := nk
    rw [List.map_cons]
    unfold relF
    cases hx : x == n with
    | true =>
      rw [List.lookup_cons, hx] at h
      cases h
      by_cases hc : (NameKind.free == NameKind.free && env.scope.kind == .function && env.kindOf n == some .cell) = true
      · left; rw [if_pos hc, List.lookup_cons, hx]
      · right; rw [if_neg hc, List.lookup_cons, hx]
    | false =>
      rw [List.lookup_cons, hx] at h
      by_cases hc : (k == NameKind.free && env.scope.kind == .function && env.kindOf n == some .cell) = true
      · rw [if_pos hc, List.lookup_cons, hx]; exact ih h
      · rw [if_neg hc, List.lookup_cons, hx]; exact ih h
theorem lookup_relabel_free {scope : Scope} {env : Env} {x : Str} (h : scope.names.lookup x = some .free) : (relabel scope env).names.lookup x = some .cell ∨ (relabel scope env).names.lookup x = some .free :=
  relF_free (env := env) h
theorem relabel_kind {scope : Scope} {env : Env} (nc : ∀ y ∈ scope.names, y.2 ≠ .cell) {y : Str} (h : (relabel scope env).names.lookup y = some .cell ∨ (relabel scope env).names.lookup y = some .free) : (y, NameKind.free) ∈ scope.names := by
  have key : ∀ k, (relabel scope env).names.lookup y = some k → k = .cell ∨ k = .free → (y, NameKind.free) ∈ scope.names := fun k e hk => by
    have m := PySem.mem_of_lookup e
    obtain ⟨⟨n, k'⟩, hm, q⟩ := List.mem_map.mp m
    dsimp only at q
    split at q
    · rename_i c
      have c1 : (k' == NameKind.free) = true := by
        simp only [Bool.and_eq_true] at c
        exact c.1.1
      have c2 : k' = .free := eq_of_beq c1
      cases q
      rw [c2] at hm
      exact hm
    · cases q
      rcases hk with z | z
      · exact absurd z (nc _ hm)
      · rw [z] at hm; exact hm
  rcases h with h | h
  · exact key _ h (.inl rfl)
  · exact key _ h (.inr rfl)
/- what of a comprehension's scope is asked: sc the scope around it, N the names around it, x its own name, fr the slots and names that it takes from around -/
structure CompScope (sc scope : Scope) (N : List Str) (x : Str) (fr : List (Nat × Str)) : Prop where
  kind : scope.kind = .function
  loc : scope.names.lookup x = some .local
  names : ∀ y ∈ scope.names, y.2 = .local → scope.names.lookup y.1 = some .local
  nocell : ∀ y ∈ scope.names, y.2 ≠ .cell
  free : ∀ y ∈ scope.names, y.2 = .free → sc.names.lookup y.1 = some .cell ∨ sc.names.lookup y.1 = some .free
  frk : ∀ p ∈ fr, N[p.1]? = some p.2 ∧ scope.names.lookup p.2 = some .free
  nd : (x :: fr.map (·.2)).Nodup
/- the context of a comprehension's block -/
noncomputable def cxComp (X : Cx) (scope : Scope) (C : Addr) (N : List Str) (s : Shared) (H : Hp) (fp : List Addr) : Cx where
  prog := X.prog
  w := X.w
  K := X.K
  mg := X.mg
  base := X.base
  A := X.A
  N := N
  s₀ := s
  H₀ := H
  env := compEnvC scope (closOf X.env.cells scope.names []) C X.env
  outer := X.stack
  stack := X.stack
  ex := fp
  fn := fun _ => false
  calm := X.calm
  pn := []
  xe := fun _ _ => False
noncomputable def frV (σ : St) (fr : List (Nat × Str)) : St := fr.map fun p => (σ[p.1]?).join
/- the tests of a comprehension -/
noncomputable def PTs (X : Cx) (ifs : List Expr) (t : TT) : Prop :=
  ∀ (pins : List (Addr × Obj)) (s : Shared) (σ : St) (H : Hp) (Q : Bool → Hp → Prop), Inv X pins σ H s → t σ H Q →
    wpAny (model X.prog X.w) X.A (forIn ifs true fun c r => if r = true then do let ok ← isTrue c X.env (eval c X.env); pure (ForInStep.yield ok) else pure (ForInStep.yield r)) (TP X pins σ Q) X.xe s
noncomputable def tTrue : TT := fun _ H Q => Q true H
theorem tTrue_go {σ : St} {H : Hp} {Q : Bool → Hp → Prop} (h : Q true H) : tTrue σ H Q := h
theorem pts_nil {X : Cx} : PTs X [] tTrue := fun _ _ _ H _ I h => wpAny_tests_nil ⟨H, I, h⟩
theorem pts_one {X : Cx} {c : Expr} {t : TT} (hc : PT X c t) : PTs X [c] t := fun pins s σ H Q I h => wpAny_tests_one (hc pins s σ H Q I h)
/- [elt for x in iter if ..]: the list D grows by the turn; W its invariant with a measure -/
noncomputable def compGoal (J : It) (fr : List (Nat × Str)) (tt : TT) (te : TE) (σ : St) (H1 : Hp) (Q : VK) : Prop := ∀ D, H1 D = none →
  ∃ W : Nat → Nat → List V → Hp → Prop, (∃ m, W 0 m [] (upd H1 D (.lst []))) ∧ ∀ i m ys H2, W i m ys H2 → H2 D = some (.lst ys) ∧
    ((J.stop i H2 ∧ Q (.ref D) H2) ∨ (J.go i H2 ∧ ∀ v H3, J.yld i H2 v H3 → tt (some v :: frV σ fr) H3 fun b H4 =>
      if b = true then te (some v :: frV σ fr) H4 fun y H5 => H5 D = some (.lst ys) ∧ ys.length < sizeLine ∧ ∃ m', m' < m ∧ W (i + 1) m' (ys ++ [y]) (upd H5 D (.lst (ys ++ [y])))
      else ∃ m', m' < m ∧ W (i + 1) m' ys H4))
noncomputable def tComp (wi : TI) (fr : List (Nat × Str)) (tt : TT) (te : TE) : TE := fun σ H Q => wi σ H fun J H1 => compGoal J fr tt te σ H1 Q
/- what is known of the block's own namespace from outside -/
structure FreshC (X : Cx) (pins : List (Addr × Obj)) (H : Hp) (C : Addr) : Prop where
  hn : H C = none
  hL : C ≠ X.env.locals
  h1 : C ∈ X.ex ∨ X.s₀.heap.objs.size ≤ C
  h2 : ∀ x c, X.env.cells.lookup x = some c → c ≠ C
  h3 : ∀ p ∈ X.pn ++ pins, p.1 ≠ C
theorem comp_run {X : Cx} {x : Str} {px : Pos} {iter elt : Expr} {ifs : List Expr} {scope sc : Scope} {pos pos' : Pos} {N : List Str} {fr : List (Nat × Str)} {wi : TI} {tt : TT} {te : TE}
    {pins : List (Addr × Obj)} {s : Shared} {σ : St} {H : Hp} {Q : VK} {Q' : Value → Shared → Prop} {use : Option (Value → Sem Unit)}
    (S : CompScope sc scope N x fr) (hsc : X.env.scope = sc) (hN : X.N = N) (hc : X.calm = true) (hi : PI X (.Name x px) iter wi)
    (ht : ∀ (C : Addr) (s : Shared) (H : Hp) (fp : List Addr), PTs (cxComp X scope C (x :: fr.map (·.2)) s H fp) ifs tt)
    (he : ∀ (C : Addr) (s : Shared) (H : Hp) (fp : List Addr), PE (cxComp X scope C (x :: fr.map (·.2)) s H fp) elt te)
    (hs : ∀ z, foldedSetIterable iter X.env z = pure z) (I : Inv X pins σ H s) (h : tComp wi fr tt te σ H Q)
    (hfin : ∀ (D C : Addr) (H' : Hp) (s' : Shared) (m : Str → Option Value), Inv X pins σ H' s' → s'.heap.Ns C m → FreshC X pins H' C → Q (.ref D) H' → compPost (model X.prog X.w) X.A X.xe use Q' (.ref D) C (.ok .next) s') :
    wpAny (model X.prog X.w) X.A (comprehension (.ListComp elt [⟨.Name x px, iter, ifs, 0⟩] scope pos) scope X.env pos' (newList []) false (eval iter X.env) use) Q' X.xe s := by
  have kin : ∀ y, scope.names.lookup y = some .free → X.env.kindOf y = some .cell ∨ X.env.kindOf y = some .free := fun y hy => by
    show X.env.scope.names.lookup y = _ ∨ X.env.scope.names.lookup y = _
    rw [hsc]
    exact S.free (y, .free) (PySem.mem_of_lookup hy) rfl
  have kin' : ∀ y ∈ scope.names, y.2 = .free → X.env.kindOf y.1 = some .cell ∨ X.env.kindOf y.1 = some .free := fun y hy hf => by
    show X.env.scope.names.lookup y.1 = _ ∨ X.env.scope.names.lookup y.1 = _
    rw [hsc]
    exact S.free y hy hf
  have hkc : ∀ y ∈ scope.names, y.2 = .free → ∃ c, X.env.cells.lookup y.1 = some c := fun y hy hf => I.ok.has y.1 (kin' y hy hf)
  refine wpAny_comprehension_free (use := use) rfl hs (closureFor_of hkc) S.kind S.names ?_
  refine thn (hi pins s σ H _ I h) fun xv s1 h1 => thn h1 fun itv s2 h2 => ?_
  obtain ⟨it, fp, tn, J, H2, rfl, I2, T, st2, f2, q2⟩ := h2
  refine wpAny_newObj_type (wpAny_newFunctionEnv S.nocell (by intro y hy; simp at hy) (fun h₁ hns₁ hsb₁ => ?_) S.kind)
  dsimp only at hns₁ hsb₁ ⊢
  have I3 : Inv X pins σ (upd H2 s2.heap.objs.size (.lst [])) { s2 with heap := s2.heap.push { cls := .type "list", data := .seq ([] : List Value).toArray } } :=
    I2.lnew (its := []) (t' := s2.toks) .nil (Nat.zero_le _)
  unfold compGoal at q2
  obtain ⟨W, ⟨m0, w0⟩, turn⟩ := q2 s2.heap.objs.size (I2.hok.fresh (Nat.le_refl _))
  generalize hG : s2.heap.push { cls := .type "list", dict := none, data := .seq ([] : List Value).toArray } = G at hns₁ hsb₁ I3 ⊢
  generalize hD : s2.heap.objs.size = D at I3 turn w0 ⊢
  generalize hH3 : upd H2 D (.lst []) = H3 at I3 w0
  have neG : ∀ b o, G.get? b = some o → b ≠ G.objs.size := fun b o e => Nat.ne_of_lt (Heap.lt_size e)
  have old : ∀ b o, G.get? b = some o → h₁.get? b = some o := fun b o e => (hsb₁.2 b (neG b o e)).trans (Heap.get?_push_of_some _ e)
  have up2 : ∀ b o, s2.heap.get? b = some o → G.get? b = some o := fun b o e => by rw [← hG]; exact Heap.get?_push_of_some _ e
  have fpG : ∀ b ∈ fp, b < G.objs.size := fun b hb => by
    obtain ⟨o, e, _⟩ := T.obj _ _ st2 b hb
    exact Heap.lt_size (up2 b o e)
  have sub : ∀ {y : Str} {c : Addr}, (closOf X.env.cells scope.names []).lookup y = some c → X.env.cells.lookup y = some c := fun {y c} e => by
    rcases closOf_sub _ _ e with z | z
    · exact z
    · simp at z
  have stat0 : ∀ b ∈ fp, (b ∈ X.ex ∨ X.s₀.heap.objs.size ≤ b) ∧ b ≠ X.env.locals ∧ (∀ x c, X.env.cells.lookup x = some c → c ≠ b) ∧ ∀ p ∈ X.pn ++ pins, p.1 ≠ b := fun b hb =>
    ⟨(f2 b hb).2.2.2.1, (f2 b hb).2.1, (f2 b hb).2.2.2.2.1, (f2 b hb).2.2.2.2.2⟩
  have hCL : G.objs.size ≠ X.env.locals := Nat.ne_of_gt I3.lt
  have hC1 : X.s₀.heap.objs.size ≤ G.objs.size := I3.sz
  have hC2 : ∀ x c, X.env.cells.lookup x = some c → c ≠ G.objs.size := fun x c e => by
    obtain ⟨v, o, ho, _⟩ := I3.cell x c e
    exact neG c o ho
  have hC3 : ∀ p ∈ X.pn ++ pins, p.1 ≠ G.objs.size := fun p hp => neG p.1 p.2 (I3.pin p hp).1
  have okB : (cxComp X scope G.objs.size (x :: fr.map (·.2)) { s2 with heap := G } H3 fp).Ok := by
    refine ⟨I2.ok.mod, S.kind, I2.ok.glob, I2.ok.blt, Nat.le_refl _, fun y z c e1 e2 => I2.ok.inj y z c (sub e1) (sub e2), fun y hy => ?_, fun y c z => Bool.noConfusion z, I2.ok.hd, I2.ok.frames, .inl rfl, fun b hb => ⟨Nat.ne_of_lt (fpG b hb), fun y c e => (stat0 b hb).2.2.1 y c (sub e)⟩,
      fun b o e => I3.bs b o e, Nat.le_trans I2.ok.bsz I3.sz, fun b o e hb => ?_, fun b hb hf => ?_, I3.stack, I3.stkFree⟩
    · have m := relabel_kind S.nocell hy
      exact closOf_has _ _ m (hkc _ m rfl)
    · rcases (stat0 b hb).1 with z | z
      · exact I2.ok.noex b o e z
      · exact absurd (Nat.lt_of_lt_of_le (Heap.lt_size e) (Nat.le_trans I2.ok.bsz z)) (Nat.lt_irrefl _)
    · rcases List.mem_cons.mp (I2.stkSub b hf) with z | z
      · exact (stat0 b hb).2.1 z
      · exact (f2 b hb).2.2.1 z
  have I4 : ∀ tk : Nat, Inv (cxComp X scope G.objs.size (x :: fr.map (·.2)) { s2 with heap := G } H3 fp) [] (none :: frV σ fr) H3 { s2 with heap := h₁, toks := tk } := fun tk => by
    refine ⟨okB, rfl, I2.bare, Un.kept old, ⟨_, hns₁, fun i y v e1 e2 _ => ?_⟩, fun y c e => ?_, I3.hok.fresh (Nat.le_refl _), fun y c e => I3.freeC y c (sub e), fun p hp => absurd (show p ∈ ([] : List (Addr × Obj)) from hp) (by simp), I3.hok.kept old, ?_⟩
    · cases i with
      | zero => simp at e2
      | succ i =>
        have e1' : (fr.map (·.2))[i]? = some y := e1
        have e2' : (fr.map fun p => (σ[p.1]?).join)[i]? = some (some v) := e2
        rw [List.getElem?_map] at e1' e2'
        cases hp : fr[i]? with
        | none => rw [hp] at e1'; cases e1'
        | some p =>
          rw [hp] at e1' e2'
          have ey : p.2 = y := Option.some.inj e1'
          have ev : (σ[p.1]?).join = some v := Option.some.inj e2'
          have ev' : σ[p.1]? = some (some v) := by
            cases q : σ[p.1]? with
            | none => rw [q] at ev; cases ev
            | some o => rw [q] at ev; simp only [Option.join] at ev; exact congrArg some ev
          have hf := S.frk p (List.mem_of_getElem? hp)
          rw [ey] at hf
          have hk := kin y hf.2
          obtain ⟨m, _, hl⟩ := I2.loc
          obtain ⟨u, ru, l⟩ := hl p.1 y v (by rw [hN]; exact hf.1) ev' (.inr hk)
          refine ⟨u, ru, .inr ⟨lookup_relabel_free hf.2, ?_⟩⟩
          rcases l with ⟨k, _⟩ | ⟨_, c, e, z⟩
          · rcases hk with hk | hk
            · rw [hk] at k; cases k
            · rw [hk] at k; cases k
          · obtain ⟨c', ec⟩ := closOf_has (cells := X.env.cells) scope.names [] (PySem.mem_of_lookup hf.2) ⟨c, e⟩
            have := sub ec
            rw [e] at this
            cases this
            obtain ⟨o, ho, hd⟩ := z
            exact ⟨c, ec, o, old c o (up2 c o ho), hd⟩
    · obtain ⟨v, o, ho, hd⟩ := I2.cell y c (sub e)
      exact ⟨v, o, old c o (up2 c o ho), hd⟩
    · show (none :: frV σ fr).length = (x :: fr.map (·.2)).length
      simp [frV]
  have locX : (cxComp X scope G.objs.size (x :: fr.map (·.2)) { s2 with heap := G } H3 fp).env.scope.names.lookup x = some .local := lookup_relabel_local S.loc
  generalize hX : cxComp X scope G.objs.size (x :: fr.map (·.2)) { s2 with heap := G } H3 fp = Y at I4 locX
  have eP : Y.prog = X.prog := by rw [← hX]; rfl
  have eW : Y.w = X.w := by rw [← hX]; rfl
  have eK : Y.K = X.K := by rw [← hX]; rfl
  have eA : Y.A = X.A := by rw [← hX]; rfl
  have eC : Y.calm = true := by rw [← hX]; exact hc
  have eE : Y.env = compEnvC scope (closOf X.env.cells scope.names []) G.objs.size X.env := by rw [← hX]; rfl
  have eN : Y.N = x :: fr.map (·.2) := by rw [← hX]; rfl
  have eX : Y.xe = fun _ _ => False := by rw [← hX]; rfl
  have eB : ∀ {σ' : St} {H' : Hp} {s' : Shared} {pins' : List (Addr × Obj)}, Inv Y pins' σ' H' s' → s'.os = s2.os ∧ Un (frs X.stack) fp H3 H' G s'.heap := fun {σ' H' s' pins'} J => by
    subst hX
    exact ⟨J.os, J.base⟩
  have hT := ht G.objs.size { s2 with heap := G } H3 fp
  have hE := he G.objs.size { s2 with heap := G } H3 fp
  rw [hX] at hT hE
  have fpY : ∀ {H' : Hp}, (∀ b ∈ fp, H' b = none) → ∀ b ∈ fp, FpOk Y [] H' b := fun {H'} hn b hb => by
    subst hX
    refine ⟨hn b hb, Nat.ne_of_lt (fpG b hb), okB.exfs b hb, .inl hb, fun y c e => (okB.exf b hb).2 y c e, fun p hp => absurd (show p ∈ ([] : List (Addr × Obj)) from hp) (by simp)⟩
  have loop : ∀ s3 : Shared, (∃ tk, s3 = { s2 with heap := h₁, toks := tk }) →
      codeAny (model X.prog X.w) X.A (.compLoop (.ListComp elt [⟨.Name x px, iter, ifs, 0⟩] scope pos) 0 (.ref it) (.ref D) Y.env)
        (compPost (model X.prog X.w) X.A X.xe use Q' (.ref D) G.objs.size) s3 := by
    rintro s3 ⟨tk, rfl⟩
    refine codeAny_compLoop_tests (fun n s' => ∃ i ys o H', Inv Y [] (o :: frV σ fr) H' s' ∧ tn i s'.heap ∧ (∀ b ∈ fp, H' b = none) ∧ W i n ys H') ?_ m0
      ⟨0, [], none, H3, I4 tk, T.keep _ _ _ st2 fun b hb o e => old b o (up2 b o e), fun b hb => ?_, w0⟩
    · rintro n s' ⟨i, ys, o, H', J', st', fr', w'⟩
      obtain ⟨hD', hgo⟩ := turn i n ys H' w'
      rcases hgo with ⟨stop, qn⟩ | ⟨go, step⟩
      · have Q1 := T.done Y eP eW eK eC i [] s' (o :: frV σ fr) H' (notedBy (model X.prog X.w) X.A Y.env fun e s'' => compPost (model X.prog X.w) X.A X.xe use Q' (.ref D) G.objs.size (.error e) s'') J' (fpY fr') st' stop
        rw [eA] at Q1
        refine thn Q1 fun r s4 ⟨hr, J4⟩ => ?_
        subst hr
        obtain ⟨m, hn, _⟩ := J4.loc
        rw [eE] at hn
        obtain ⟨os4, u4⟩ := eB J4
        have free4 : H' G.objs.size = none := by have := J4.free; rw [eE] at this; exact this
        have hok4 : HOk X.prog X.w H' s4.heap := by have := J4.hok; rw [eP, eW] at this; exact this
        exact hfin D G.objs.size H' s4 m (I3.call' (ch := fp) (s' := s4) os4 u4 hok4 J4.bare stat0) hn ⟨free4, hCL, .inr hC1, hC2, hC3⟩ qn
      · have Q1 := T.item Y eP eW eK eC i [] s' (o :: frV σ fr) H' (notedBy (model X.prog X.w) X.A Y.env fun e s'' => compPost (model X.prog X.w) X.A X.xe use Q' (.ref D) G.objs.size (.error e) s'') J' (fpY fr') st' go
        rw [eA] at Q1
        refine thn Q1 fun r s4 ⟨u, hr, h4⟩ => ?_
        subst hr
        show wpAny _ _ (letOwnedTupleGo (.Name x px) (.ref it) u >>= fun _ => assign (.Name x px) Y.env u) _ _ s4
        refine wpAny_bind (thn h4 fun _ s5 ⟨v, H5, J5, r5, y5, st5, fr5⟩ => ?_)
        have J5' := J5.pinned (fpY fr5) (T.obj _ _ st5)
        have G5 := pg_name (X := Y) (i := 0) (x := x) (pos := px) (by rw [eN]; exact S.nd) (by rw [eN]; rfl) (.inl locX) (.inr locX) ([] ++ pinsAt fp s5.heap) s5 (o :: frV σ fr) H5 v u (fun σ6 H6 => σ6 = some v :: frV σ fr ∧ H6 = H5) J5' r5 ⟨rfl, rfl⟩
        rw [eP, eW, eA, eX] at G5
        refine wpAny_mono G5 (fun _ s6 ⟨σ6, H6, J6, e6, e6'⟩ => ?_) fun _ _ z => z.elim
        subst e6 e6'
        have T6 := hT _ s6 _ _ _ J6 (step v _ y5)
        rw [eP, eW, eA, eX] at T6
        have again : ∀ {s7 : Shared} {H7 : Hp} {zs : List V}, Inv Y ([] ++ pinsAt fp s5.heap) (some v :: frV σ fr) H7 s7 → (∃ m', m' < n ∧ W (i + 1) m' zs H7) → ∃ m, m < n ∧ ∃ i ys o H', Inv Y [] (o :: frV σ fr) H' s7 ∧ tn i s7.heap ∧ (∀ b ∈ fp, H' b = none) ∧ W i m ys H' := fun {s7 H7 zs} J7 ⟨m', hm, w7⟩ => by
          refine ⟨m', hm, i + 1, zs, some v, H7, J7.unpinned, T.keep _ _ _ st5 fun b hb o e => (J7.pin (b, o) (List.mem_append_right _ (List.mem_append_right _ (mem_pinsAt hb e)))).1, fun b hb => ?_, w7⟩
          obtain ⟨o, e, d⟩ := T.obj _ _ st5 b hb
          exact (J7.pin (b, o) (List.mem_append_right _ (List.mem_append_right _ (mem_pinsAt hb e)))).2.1
        refine wpAny_mono T6 (fun ok s7 ⟨H7, J7, q7⟩ => ?_) fun _ _ z => z.elim
        cases ok with
        | false => exact again J7 q7
        | true =>
          have E7 := hE _ s7 _ _ _ J7 q7
          rw [eP, eW, eA, eX] at E7
          show wpAny _ _ (eval elt Y.env) _ _ s7
          refine wpAny_mono E7 (fun u8 s8 ⟨y8, H8, J8, r8, hD8, hz8, w8⟩ => ?_) fun _ _ z => z.elim
          have A8 := mt_append (X := Y) _ s8 _ H8 (.ref D) [y8] (.ref D) [u8] (fun z H9 => H9 = upd H8 D (.lst (ys ++ [y8]))) J8 rfl (.cons r8 .nil) ⟨D, ys, y8, rfl, rfl, hD8, hz8, rfl⟩
          rw [eP, eW, eA, eX] at A8
          refine wpAny_mono A8 (fun _ s9 ⟨z9, H9, J9, _, e9⟩ => ?_) fun _ _ z => z.elim
          subst e9
          exact again J9 w8
    · rw [← hH3]
      have hbD : b ≠ D := by
        rw [← hD]
        obtain ⟨o, e, _⟩ := T.obj _ _ st2 b hb
        exact Nat.ne_of_lt (Heap.lt_size e)
      rw [upd_ne hbD]
      exact (f2 b hb).1
  rw [eE] at loop
  exact codeAny_compStart_list (loop _ ⟨_, rfl⟩) (T.self _ 0 _ _ _ (T.keep _ _ _ st2 fun b hb o e => old b o (up2 b o e)) (loop _ ⟨_, rfl⟩))
theorem pe_comp {X : Cx} {x : Str} {px : Pos} {iter elt : Expr} {ifs : List Expr} {scope sc : Scope} {pos : Pos} {N : List Str} {fr : List (Nat × Str)} {wi : TI} {tt : TT} {te : TE}
    (S : CompScope sc scope N x fr) (hsc : X.env.scope = sc) (hN : X.N = N) (hc : X.calm = true) (hi : PI X (.Name x px) iter wi)
    (ht : ∀ (C : Addr) (s : Shared) (H : Hp) (fp : List Addr), PTs (cxComp X scope C (x :: fr.map (·.2)) s H fp) ifs tt)
    (he : ∀ (C : Addr) (s : Shared) (H : Hp) (fp : List Addr), PE (cxComp X scope C (x :: fr.map (·.2)) s H fp) elt te)
    (hs : ∀ z, foldedSetIterable iter X.env z = pure z := by intro _; rfl) :
    PE X (.ListComp elt [⟨.Name x px, iter, ifs, 0⟩] scope pos) (tComp wi fr tt te) := by
  intro pins s σ H Q I h
  rw [eval_ListComp]
  refine comp_run (use := none) S hsc hN hc hi ht he hs I h fun D C H' s' m J hn fc q => ?_
  exact ⟨m, hn, fun h' hs' => ⟨.ref D, H', J.turned (t' := s'.toks) (fun b o hb e => (hs'.2 b hb).trans e) fc.hn fc.hL fc.h1 fc.h2 fc.h3, rfl, q⟩⟩
noncomputable def clsV : V → Option Value
  | .ty n => some (.type n)
  | .ref a => some (.ref a)
  | _ => none
theorem call_isinst {X : Cx} : CallR X (.builtin "isinstance") (fun xs H Q => ∃ x c cv t b, xs = [x, c] ∧ clsV c = some cv ∧ TyOf X.K H x t ∧ PySem.W.kitOne X.K t cv = some b ∧ Q (.bl b) H) := by
  intro pins s σ H xs us Q I r h
  obtain ⟨x, c, cv, t, b, rfl, hcv, ty, hk, q⟩ := h
  obtain ⟨u, u', rfl, rx, rc⟩ := vals2 r
  have e : u' = cv := by
    cases c with
    | ty n => cases hcv; exact rc
    | ref a => cases hcv; exact rc
    | _ => cases hcv
  subst e
  exact isinst_ok I rx ty hk fun tk => ⟨.bl b, H, I.tok tk, rfl, q⟩
theorem strsAre_of {xs : List Str} : ∀ {us : List Value}, Vals (xs.map V.str) us → StrsAre us xs := by
  induction xs with
  | nil => intro us r; rw [List.map_nil] at r; cases r; exact .nil
  | cons y ys ih =>
    intro us r
    rw [List.map_cons] at r
    cases r with
    | cons r1 r2 =>
      obtain ⟨t, e⟩ := r1
      subst e
      exact .cons y t (ih r2)
mutual
inductive RD (K : PySem.W.Frag) (H : Hp) : V → PyData → Prop
  | non : RD K H .non .none
  | bl (b : Bool) : RD K H (.bl b) (.bool b)
  | int (i : Int) : RD K H (.int i) (.int i)
  | str (x : Str) : RD K H (.str x) (.str x)
  | lst {a : Addr} {xs : List V} {ds : List PyData} : SqL K H a xs → RDs K H xs ds → RD K H (.ref a) (.list ds)
  | tup {a : Addr} {xs : List V} {ds : List PyData} : SqT K H a xs → RDs K H xs ds → RD K H (.ref a) (.tuple ds)
inductive RDs (K : PySem.W.Frag) (H : Hp) : List V → List PyData → Prop
  | nil : RDs K H [] []
  | cons {x : V} {xs : List V} {d : PyData} {ds : List PyData} : RD K H x d → RDs K H xs ds → RDs K H (x :: xs) (d :: ds)
end
theorem RD.reads {X : Cx} {pins : List (Addr × Obj)} {σ : St} {H : Hp} {s : Shared} (I : Inv X pins σ H s) {x : V} {d : PyData} {u : Value} (h : RD X.K H x d) (r : RelV x u) : ∃ as, Reads s.heap u d as := by
  refine RD.rec (K := X.K) (H := H) (motive_1 := fun x d _ => ∀ u, RelV x u → ∃ as, Reads s.heap u d as) (motive_2 := fun xs ds _ => ∀ us, Vals xs us → ∃ as, ReadsAll s.heap us ds as) (fun u r => ?_) (fun b u r => ?_) (fun i u r => ?_) (fun x u r => ?_) (fun {a xs ds} hq hs ih u r => ?_) (fun {a xs ds} hq hs ih u r => ?_) (fun us r => ?_) (fun h1 h2 i1 i2 us r => ?_) h u r
  · cases (show _ = Value.none from r); exact ⟨_, .none⟩
  · cases (show _ = Value.bool b from r); exact ⟨_, .bool b⟩
  · obtain ⟨t, e⟩ := r; subst e; exact ⟨_, .int i t⟩
  · obtain ⟨t, e⟩ := r; subst e; exact ⟨_, .str x t⟩
  · cases (show _ = Value.ref a from r)
    obtain ⟨its, rv, pl, _⟩ := I.list hq
    obtain ⟨as, ra⟩ := ih _ rv
    obtain ⟨o, e, c, n, d⟩ := pl.isList
    exact ⟨_, .list e c d (by simpa using ra)⟩
  · cases (show _ = Value.ref a from r)
    obtain ⟨its, rv, pl, _⟩ := I.tuple hq
    obtain ⟨as, ra⟩ := ih _ rv
    obtain ⟨o, e, c, n, d⟩ := pl
    exact ⟨_, .tuple e c d (by simpa using ra)⟩
  · cases r; exact ⟨_, .nil⟩
  · cases r with
    | cons r1 r2 =>
      obtain ⟨as, a1⟩ := i1 _ r1
      obtain ⟨bs, a2⟩ := i2 _ r2
      exact ⟨_, .cons a1 a2⟩
theorem RDs.reads {X : Cx} {pins : List (Addr × Obj)} {σ : St} {H : Hp} {s : Shared} (I : Inv X pins σ H s) {xs : List V} {ds : List PyData} {us : List Value} (h : RDs X.K H xs ds) (r : Vals xs us) : ∃ as, ReadsAll s.heap us ds as := by
  refine RDs.rec (K := X.K) (H := H) (motive_1 := fun _ _ _ => True) (motive_2 := fun xs ds _ => ∀ us, Vals xs us → ∃ as, ReadsAll s.heap us ds as) trivial (fun _ => trivial) (fun _ => trivial) (fun _ => trivial) (fun _ _ _ => trivial) (fun _ _ _ => trivial) (fun us r => ?_) (fun h1 h2 i1 i2 us r => ?_) h us r
  · cases r; exact ⟨_, .nil⟩
  · cases r with
    | cons r1 r2 =>
      obtain ⟨as, a1⟩ := RD.reads I h1 r1
      obtain ⟨bs, a2⟩ := i2 _ r2
      exact ⟨_, .cons a1 a2⟩
inductive rEqD_I (K : PySem.W.Frag) (x : V) (y : V) (H : Hp) (Q : VK) : Prop
  | mk : ∀ d e, RD K H x d → RD K H y e → SeqAt.shaped d = true → SeqAt.shaped e = true → Q (.bl (PyData.eqv d e)) H → rEqD_I K x y H Q
noncomputable def rEqD (K : PySem.W.Frag) : R2 := fun x y H Q => rEqD_I K x y H Q
inductive rNeD_I (K : PySem.W.Frag) (x : V) (y : V) (H : Hp) (Q : VK) : Prop
  | mk : ∀ d e, RD K H x d → RD K H y e → SeqAt.shaped d = true → SeqAt.shaped e = true → Q (.bl (!PyData.eqv d e)) H → rNeD_I K x y H Q
noncomputable def rNeD (K : PySem.W.Frag) : R2 := fun x y H Q => rNeD_I K x y H Q
theorem op_eqD {X : Cx} (hu : X.A.units + 64 < cLine) : OpR X (compareOp .Eq) (rEqD X.K) := by
  intro pins s σ H x y v u Q I rx ry h
  obtain ⟨d, e, hd, he, sd, se, q⟩ := h
  obtain ⟨as, ra⟩ := hd.reads I rx
  obtain ⟨bs, rb⟩ := he.reads I ry
  exact eq_dataH ra rb sd se hu ⟨.bl _, H, I, rfl, q⟩
theorem op_neD {X : Cx} (hu : X.A.units + 64 < cLine) : OpR X (compareOp .NotEq) (rNeD X.K) := by
  intro pins s σ H x y v u Q I rx ry h
  obtain ⟨d, e, hd, he, sd, se, q⟩ := h
  obtain ⟨as, ra⟩ := hd.reads I rx
  obtain ⟨bs, rb⟩ := he.reads I ry
  exact ne_dataH ra rb sd se hu ⟨.bl _, H, I, rfl, q⟩
theorem us_s {n : Nat} {P : List Value → Prop} (h : ∀ a us, us.length = n → P (a :: us)) : ∀ us : List Value, us.length = n + 1 → P us := fun us e => by
  cases us with
  | nil => exact absurd e (Nat.succ_ne_zero n).symm
  | cons a us => exact h a us (Nat.succ.inj e)
theorem us_0 {P : List Value → Prop} (h : P []) : ∀ us : List Value, us.length = 0 → P us := fun us e => by rw [List.eq_nil_of_length_eq_zero e]; exact h
theorem us_1 {P : List Value → Prop} (h : ∀ a, P [a]) : ∀ us : List Value, us.length = 1 → P us := us_s fun a => us_0 (P := fun us => P (a :: us)) (h a)
theorem us_2 {P : List Value → Prop} (h : ∀ a b, P [a, b]) : ∀ us : List Value, us.length = 2 → P us := us_s fun a => us_1 (P := fun us => P (a :: us)) (fun b => h a b)
theorem us_3 {P : List Value → Prop} (h : ∀ a b c, P [a, b, c]) : ∀ us : List Value, us.length = 3 → P us := us_s fun a => us_2 (P := fun us => P (a :: us)) (fun b c => h a b c)
theorem us_4 {P : List Value → Prop} (h : ∀ a b c d, P [a, b, c, d]) : ∀ us : List Value, us.length = 4 → P us := us_s fun a => us_3 (P := fun us => P (a :: us)) (fun b c d => h a b c d)
theorem us_5 {P : List Value → Prop} (h : ∀ a b c d e, P [a, b, c, d, e]) : ∀ us : List Value, us.length = 5 → P us := us_s fun a => us_4 (P := fun us => P (a :: us)) (fun b c d e => h a b c d e)
inductive Ex1 {α0 : Type} (P : α0 → Prop) : Prop
  | mk : ∀ x0, P x0 → Ex1 P
inductive Ex2 {α0 α1 : Type} (P : α0 → α1 → Prop) : Prop
  | mk : ∀ x0 x1, P x0 x1 → Ex2 P
inductive Ex3 {α0 α1 α2 : Type} (P : α0 → α1 → α2 → Prop) : Prop
  | mk : ∀ x0 x1 x2, P x0 x1 x2 → Ex3 P
inductive Ex4 {α0 α1 α2 α3 : Type} (P : α0 → α1 → α2 → α3 → Prop) : Prop
  | mk : ∀ x0 x1 x2 x3, P x0 x1 x2 x3 → Ex4 P
inductive Ex5 {α0 α1 α2 α3 α4 : Type} (P : α0 → α1 → α2 → α3 → α4 → Prop) : Prop
  | mk : ∀ x0 x1 x2 x3 x4, P x0 x1 x2 x3 x4 → Ex5 P
inductive Ex7 {α0 α1 α2 α3 α4 α5 α6 : Type} (P : α0 → α1 → α2 → α3 → α4 → α5 → α6 → Prop) : Prop
  | mk : ∀ x0 x1 x2 x3 x4 x5 x6, P x0 x1 x2 x3 x4 x5 x6 → Ex7 P
inductive And7 (p0 p1 p2 p3 p4 p5 p6 : Prop) : Prop
  | mk : p0 → p1 → p2 → p3 → p4 → p5 → p6 → And7 p0 p1 p2 p3 p4 p5 p6
inductive And8 (p0 p1 p2 p3 p4 p5 p6 p7 : Prop) : Prop
  | mk : p0 → p1 → p2 → p3 → p4 → p5 → p6 → p7 → And8 p0 p1 p2 p3 p4 p5 p6 p7
inductive And9 (p0 p1 p2 p3 p4 p5 p6 p7 p8 : Prop) : Prop
  | mk : p0 → p1 → p2 → p3 → p4 → p5 → p6 → p7 → p8 → And9 p0 p1 p2 p3 p4 p5 p6 p7 p8
end L2
set_option Elab.async false
set_option linter.all false
set_option maxRecDepth 100000
set_option maxHeartbeats 4000000
namespace L2
open PySem PySem.Spec PyProof.Rows
theorem atI_some {α : Type} {xs : List α} {i : Int} (h0 : 0 ≤ i) (h1 : i < (xs.length : Int)) : ∃ v, atI xs i = some v ∧ v ∈ xs ∧ xs[i.toNat]? = some v := by
  have hn : i.toNat < xs.length := by omega
  refine ⟨xs[i.toNat], ?_, List.getElem_mem hn, List.getElem?_eq_getElem hn⟩
  have e : ((i.toNat : Nat) : Int) = i := by omega
  have q := atI_nat (xs := xs) (j := i.toNat) (List.getElem?_eq_getElem hn)
  rw [e] at q
  exact q
theorem atI_mod {α : Type} {xs : List α} (i : Int) (h : 0 < xs.length) : ∃ v, atI xs (i % (xs.length : Int)) = some v ∧ v ∈ xs ∧ xs[(i % (xs.length : Int)).toNat]? = some v :=
  atI_some (Int.emod_nonneg _ (by omega)) (Int.emod_lt_of_pos _ (by omega))
theorem mem_map_int {ns : List Int} {v : V} (h : v ∈ ns.map V.int) : ∃ z, v = .int z ∧ z ∈ ns := by
  obtain ⟨z, hz, e⟩ := List.mem_map.mp h
  exact ⟨z, e.symm, hz⟩
theorem Same.upd_new {H : Hp} {p : Addr} {o : HO} (h : H p = none) : Same H (upd H p o) := fun b u e => by rw [upd_ne (ne_of_none e h)]; exact e
theorem Same.upd_of {H H' : Hp} {p : Addr} {o : HO} (s : Same H H') (h : H p = none) : Same H (upd H' p o) := fun b u e => by rw [upd_ne (ne_of_none e h)]; exact s b u e
theorem Same.tup {K : PySem.W.Frag} {H H' : Hp} {a : Addr} {xs : List V} (e : Same H H') (h : SqT K H a xs) : SqT K H' a xs := by
  rcases h with (h | ⟨o, h⟩) | h
  · exact .inl (.inl (e _ _ h))
  · exact .inl (.inr ⟨o, e _ _ h⟩)
  · exact .inr h
/- a global that holds a plain value -/
theorem pe_gl {X : Cx} {x : Str} {v : V} {pos : Pos} (hg : Gl X x) (h : ∃ u, X.mg x = some u ∧ RelV v u) (hd : (x == ("__debug__" : Str)) = false := by decide) : PE X (.Name x pos) (tC v) := by
  obtain ⟨u, hm, r⟩ := h
  exact pe_glob hg hm r hd
theorem ix_listK {X : Cx} (K : PySem.W.Frag) (hK : X.K = K := by rfl) : IxR X (rIxL K) := hK ▸ ix_list
section
variable {X : Cx} {o e : Expr} {es : List Expr} {to : TE} {t : TA} {name : Str} {apos cpos : Pos} {T id : String} {r : V → List V → Hp → VK → Prop}
end
noncomputable def plainE : Expr → Bool
  | .Starred .. => false
  | _ => true
theorem starEach_plain {e : Expr} {es : List Expr} {env : Env} (h : plainE e = true) : starEach (e :: es) env = (false, eval e env) :: starEach es env := by
  cases e <;> first | rfl | (cases h)
/- an item of a written list, tuple or argument list (no star) -/
theorem pac {X : Cx} {e : Expr} {es : List Expr} {te : TE} {t : TA} (ha : PE X e te) (hr : PA X es t) (h : plainE e = true := by rfl) : PA X (e :: es) (tCons te t) := pa_cons ha hr (starEach_plain h)
/- an item list, not to be looked into by the elaborator (its unfolding is paid for item by item, twice each) -/
structure PAs (X : Cx) (es : List Expr) (t : TA) : Prop where
  h : PA X es t
theorem pas_nil {X : Cx} : PAs X [] tNil := ⟨pa_nil⟩
theorem pas_cons {X : Cx} {e : Expr} {es : List Expr} {te : TE} {t : TA} (ha : PE X e te) (hr : PAs X es t) (h : plainE e = true := by rfl) : PAs X (e :: es) (tCons te t) := ⟨pac ha hr.h h⟩
theorem pe_lstS {X : Cx} {es : List Expr} {t : TA} {pos : Pos} (h : PAs X es t) : PE X (.List es pos) (tLst t) := pe_lst h.h
theorem cat_len (x y : Str) : (x ++ y).length = x.length + y.length := by
  show (x.cps ++ y.cps).size = _
  rw [Array.size_append]; rfl
theorem one_len (c : Nat) : (⟨#[c]⟩ : Str).length = 1 := rfl
end L2
set_option Elab.async false
set_option linter.all false
set_option maxRecDepth 100000
set_option maxHeartbeats 4000000
namespace L2
open PySem PySem.Spec PyProof.Rows
/- only plain signs -/
noncomputable def Asc (x : Str) : Prop := ∀ c ∈ x.cps.toList, c < 128
theorem Asc.ok {x : Str} (h : Asc x) : PyData.strOk x = true := by
  unfold PyData.strOk
  rw [Array.all_eq_true']
  intro c hc
  have := h c (Array.mem_toList_iff.mpr hc)
  exact decide_eq_true (by omega)
theorem vals_of_get {xs : List V} {us : List Value} (hl : xs.length = us.length) (hg : ∀ (j : Nat) (x : V) (u : Value), xs[j]? = some x → us[j]? = some u → RelV x u) : Vals xs us := by
  induction xs generalizing us with
  | nil => cases us with
    | nil => exact .nil
    | cons _ _ => cases hl
  | cons x xs ih => cases us with
    | nil => cases hl
    | cons u us => exact .cons (hg 0 x u rfl rfl) (ih (Nat.succ.inj hl) fun j y w h1 h2 => hg (j + 1) y w h1 h2)
theorem KV.at {κ : Type} {kvs : List (κ × V)} {vs : List (κ × Value)} {j : Nat} {p : κ × V} {q : κ × Value} (h : KV kvs vs) (h1 : kvs[j]? = some p) (h2 : vs[j]? = some q) : p.1 = q.1 := by
  have h' : Paired (fun (p : κ × V) (q : κ × Value) => p.1 = q.1 ∧ RelV p.2 q.2) kvs vs := h
  clear h
  induction h' generalizing j with
  | nil => rw [List.getElem?_nil] at h1; exact nomatch h1
  | cons r t ih =>
    cases j with
    | zero => cases h1; cases h2; exact r.1
    | succ j => exact ih h1 h2
/- list(d) -/
theorem call_list_dict {X : Cx} (hc : X.calm = true) : CallR X (.type "list") (fun xs H Q => ∃ p kvs, xs = [.ref p] ∧ H p = some (.dK kvs) ∧ ∀ l, H l = none → Q (.ref l) (upd H l (.lst (kvs.map fun kv => kV kv.1)))) := by
  intro pins s σ H xs us Q I r h
  obtain ⟨p, kvs, rfl, hp, q⟩ := h
  obtain ⟨u, rfl, rx⟩ := vals1 r
  cases rx
  obtain ⟨hz, hlo, vs, rv, o, es, ep, h1, h2, h3, h4, h5, h6⟩ := dk_of I.hok hp
  have da : s.heap.DictAt (mixKind X.prog X.w) p vs ep := ⟨o, es, h1, h2, h3, h4, h5, h6⟩
  have hlen : kvs.length = vs.length := KV.length rv
  refine PySem.W.kdl_call (PySem.W.kdl_dict hlo) (I.ok.hd hc) da (by rw [← hlen]; exact hz) fun h' tk acc' c' hk hS hacc => ?_
  have hv : Vals (kvs.map fun kv => kV kv.1) acc'.toList := by
    refine vals_of_get (by rw [List.length_map, hlen]; exact hacc.1.symm.trans (by simp)) fun j x u e1 e2 => ?_
    rw [List.getElem?_map] at e1
    cases hj : kvs[j]? with
    | none => rw [hj] at e1; cases e1
    | some kv =>
      rw [hj] at e1
      cases e1
      obtain ⟨k, y, e3, e4⟩ := hacc.2 j u (by rw [← Array.getElem?_toList]; exact e2)
      have ek : kv.1 = k := KV.at rv hj e3
      show RelV (kV kv.1) u
      rw [ek]
      rcases keyIs_shape (show keyIs k u = true from e4) with ⟨i, t, rfl, rfl⟩ | ⟨z, t, rfl, rfl⟩
      · exact ⟨t, rfl⟩
      · exact ⟨t, rfl⟩
  exact ⟨.ref s.heap.objs.size, _, I.laid (t' := tk) hk (Nat.le_refl _) (show ObjOk X.prog X.w _ h' _ (.lst _) from ⟨by rw [List.length_map]; exact hz, acc'.toList, c', hv, by rw [Array.toArray_toList]; exact hS⟩), rfl, q _ (I.hok.fresh (Nat.le_refl _))⟩
/- a comprehension over a range: P of what has come so far, whatever the heap has got beside -/
theorem comp_rangeG {lo : Int} {n : Nat} {fr : List (Nat × Str)} {te : TE} {σ : St} {H1 : Hp} {Q : VK} (Pv : Nat → List V → Prop) (hz : n ≤ sizeLine) (h0 : Pv 0 []) (hlen : ∀ i ys, Pv i ys → ys.length = i)
    (hte : ∀ (i : Nat) (ys : List V) (H3 : Hp) (Q' : VK), i < n → Pv i ys → Same H1 H3 → (∀ y H5, Pv (i + 1) (ys ++ [y]) → Same H3 H5 → Q' y H5) → te (some (.int (lo + i)) :: frV σ fr) H3 Q')
    (hQ : ∀ D ys H2, H1 D = none → Pv n ys → Same H1 H2 → H2 D = some (.lst ys) → Q (.ref D) H2) :
    compGoal (Itr lo n) fr tTrue te σ H1 Q := by
  unfold compGoal
  intro D hD
  refine ⟨fun i m ys H2 => m = n - i ∧ i ≤ n ∧ Pv i ys ∧ Same H1 H2 ∧ H2 D = some (.lst ys), ⟨n, by simp, Nat.zero_le _, h0, Same.upd_new hD, upd_same⟩, ?_⟩
  rintro i m ys H2 ⟨rfl, hi, p, s2, d2⟩
  refine ⟨d2, ?_⟩
  by_cases hlt : i < n
  · refine .inr ⟨hlt, ?_⟩
    rintro v H3 ⟨rfl, rfl⟩
    refine tTrue_go (iteT ?_)
    refine hte i ys _ _ hlt p s2 fun y H5 p' s5 => ⟨s5 _ _ d2, ?_, n - (i + 1), by omega, rfl, hlt, p', (s2.trans s5).upd_of hD, upd_same⟩
    rw [hlen i ys p]; omega
  · have e : i = n := by omega
    subst e
    exact .inl ⟨Nat.le_refl _, hQ D ys H2 hD p s2 d2⟩
end L2
set_option Elab.async false
set_option linter.all false
set_option maxRecDepth 100000
set_option maxHeartbeats 4000000
namespace L2
open PySem PySem.Spec PyProof.Rows
theorem rds_strs {K : PySem.W.Frag} {H : Hp} : ∀ xs : List Str, RDs K H (xs.map V.str) (xs.map PyData.str)
  | [] => .nil
  | x :: r => .cons (.str x) (rds_strs r)
theorem rd_strs {K : PySem.W.Frag} {H : Hp} {a : Addr} {xs : List Str} (h : SqL K H a (xs.map V.str)) : RD K H (.ref a) (.list (xs.map PyData.str)) := .lst h (rds_strs xs)
theorem lay_strs : ∀ {xs : List Str}, (∀ x ∈ xs, Asc x) → PyData.canLayAll0 (xs.map PyData.str) = true ∧ PyData.depthAll (xs.map PyData.str) = 0
  | [], _ => ⟨rfl, rfl⟩
  | x :: r, h => by
    have q := lay_strs (xs := r) fun y hy => h y (List.mem_cons_of_mem _ hy)
    have e := (h x List.mem_cons_self).ok
    simp only [List.map_cons, PyData.canLayAll0, PyData.canLay0, PyData.depthAll, PyData.depth, q.1, q.2, e]
    exact ⟨rfl, rfl⟩
theorem shaped_strs {xs : List Str} (h : ∀ x ∈ xs, Asc x) : SeqAt.shaped (.list (xs.map PyData.str)) = true := by
  have q := lay_strs h
  unfold SeqAt.shaped
  simp only [PyData.canLay0, PyData.depth, q.1, q.2]
  rfl
theorem inV_strs {xs : List Str} {t : Str} : inV (.str t) (xs.map V.str) = decide (t ∈ xs) := by
  unfold inV
  rw [List.any_map, Bool.eq_iff_iff, List.any_eq_true, decide_eq_true_eq]
  constructor
  · rintro ⟨x, hx, e⟩
    have : x = t := eq_of_beq (show (x == t) = true from e)
    rw [← this]; exact hx
  · intro h
    exact ⟨t, h, show (t == t) = true from beq_self_eq_true t⟩
theorem flat_strs (xs : List Str) : (xs.map V.str).all flatV = true := by
  rw [List.all_map, List.all_eq_true]; intro x _; rfl
end L2
namespace L2
open PySem PySem.Spec PyProof.Rows
noncomputable abbrev aZ : Str := "abcdefghijklmnopqrstuvwxyz0123456789"
theorem aZ_len : aZ.cps.toList.length = 36 := by decide +kernel
theorem aZ_asc : Asc aZ := by
  have h : (aZ.cps.toList.all fun c => decide (c < 128)) = true := by decide +kernel
  intro c hc
  exact of_decide_eq_true (List.all_eq_true.mp h c hc)
theorem aZ_small : aZ.length ≤ sizeLine := by
  have : aZ.length = 36 := by decide +kernel
  rw [this]; decide
/- 1 to 20 signs, each a small letter or a figure -/
structure WordS (x : Str) : Prop where
  lo : 1 ≤ x.length
  hi : x.length ≤ 20
  in_ : ∀ c ∈ x.cps.toList, c ∈ aZ.cps.toList
theorem WordS.asc {x : Str} (h : WordS x) : Asc x := fun c hc => aZ_asc c (h.in_ c hc)
theorem len_list (x : Str) : x.length = x.cps.toList.length := by simp [Str.length]
theorem cat_list (x y : Str) : (x ++ y).cps.toList = x.cps.toList ++ y.cps.toList := by show (x.cps ++ y.cps).toList = _; simp
theorem empty_len : ("" : Str).length = 0 := by decide +kernel
theorem pick_sign {z : Str} {i : Int} (h0 : 0 ≤ i) (h1 : i < (z.cps.toList.length : Int)) : ∃ c, atI z.cps.toList i = some c ∧ c ∈ z.cps.toList := by
  obtain ⟨c, a, b, _⟩ := atI_some h0 h1
  exact ⟨c, a, b⟩
end L2
set_option Elab.async false
set_option linter.all false
set_option maxRecDepth 100000
set_option maxHeartbeats 4000000
namespace L2
open PySem PySem.Spec PyProof.Rows
end L2
set_option Elab.async false
set_option linter.all false
set_option maxRecDepth 100000
set_option maxHeartbeats 4000000
namespace L2
open PySem PySem.Spec PyProof.Rows
end L2
set_option Elab.async false
set_option linter.all false
set_option maxRecDepth 100000
set_option maxHeartbeats 4000000
namespace L2
open PySem PySem.Spec PyProof.Rows
structure FunD (K : PySem.W.Frag) (x qual : Str) (st : Stmt) (f : Addr) (fd : FuncData) : Prop where
  ex : ∃ (oc : Value) (od : Option Addr) (dV kV doc pm : Value) (an : Option Addr) (cdv ct : Value) (osl : Array (Option Value)),
    fd = PySem.W.fnOf x qual (defArgs st) (defBody st) (defScope st) dV kV doc pm an cdv ct ∧ K.lookup f = some ⟨oc, od, .func fd, osl⟩ ∧ PySem.W.codeIn K cdv qual = true
  kp : PySem.W.keepIn K (.ref f) = true
theorem FunD.ok {P : Program} {w : World} {K : PySem.W.Frag} {mg : Str → Option Value} {base : Heap} {x qual : Str} {st : Stmt} {f : Addr} {fd : FuncData} {N ps : List Str} {k : Nat} {sp : Sp} (F : FunD K x qual st f fd) (S : FnScope N ps (defScope st))
    (len : ∀ vs H Q E, sp vs H Q E → vs.length = ps.length)
    (hbody : ∀ (cdv : Value) (A : Around) (outer : List Env) (s : Shared) (H : Hp) (vs : List V) (Q : VK) (E : XK), Room k (A.deeper (envOfC qual (defScope st) s.heap.objs.size f cdv)) → sp vs H Q E →
      ∃ t, PSs (cxOf CX0 P w K mg base N qual (defScope st) f cdv A outer s H E).nox (defBody st) t ∧ t { nx := fun _ H' => Q .non H', rt := Q } (start N vs) H) : FnOk P w K mg base CX0 (k + 1) f fd ps sp := by
  obtain ⟨oc, od, dV, kV, doc, pm, an, cdv, ct, osl, rfl, lk, hcd⟩ := F.ex
  refine fn_of lk hcd S len fun A outer s H vs Q E hr hsp => ?_
  obtain ⟨t, h, q⟩ := hbody cdv A outer s H vs Q E hr hsp
  exact ⟨t, h.nox, q⟩
theorem fun_mkD {K : PySem.W.Frag} {x qual : Str} {st : Stmt} {f : Addr} {oc dV : Value} {od an : Option Addr} {osl : Array (Option Value)} {kV doc pm cdv ct : Value} (l : K.lookup f = some ⟨oc, od, .func (PySem.W.fnOf x qual (defArgs st) (defBody st) (defScope st) dV kV doc pm an cdv ct), osl⟩)
    (c : PySem.W.codeIn K cdv qual = true) (k : PySem.W.keepIn K (.ref f) = true) : FunD K x qual st f (PySem.W.fnOf x qual (defArgs st) (defBody st) (defScope st) dV kV doc pm an cdv ct) := ⟨⟨oc, od, dV, kV, doc, pm, an, cdv, ct, osl, rfl, l, c⟩, k⟩
end L2
set_option Elab.async false
set_option linter.all false
set_option maxRecDepth 100000
set_option maxHeartbeats 4000000
namespace L2
open PySem PySem.Spec PyProof.Rows
theorem str_ext {x y : Str} (h : x.cps.toList = y.cps.toList) : x = y := by
  cases x; cases y
  have := Array.toList_inj.mp h
  simp only at this
  rw [this]
/- a row of drawn numbers: what stands at a place -/
theorem row_pick {rs : List Int} {m : Int} (hb : ∀ r ∈ rs, 0 ≤ r ∧ r < m) (i : Int) (h0 : 0 ≤ i) (h1 : i < (rs.length : Int)) : ∃ z, atI (rs.map V.int) i = some (V.int z) ∧ 0 ≤ z ∧ z < m := by
  obtain ⟨v, hv, hvm, _⟩ := atI_some (xs := rs.map V.int) h0 (by rw [List.length_map]; exact h1)
  obtain ⟨z, hz, rfl⟩ := List.mem_map.mp hvm
  exact ⟨z, hv, hb z hz⟩
end L2
set_option Elab.async false
set_option linter.all false
set_option maxRecDepth 100000
set_option maxHeartbeats 4000000
namespace L2
open PySem PySem.Spec PyProof.Rows
end L2
set_option Elab.async false
set_option linter.all false
set_option maxRecDepth 100000
set_option maxHeartbeats 4000000
namespace L2
open PySem PySem.Spec PyProof.Rows
end L2
set_option Elab.async false
set_option linter.all false
set_option maxRecDepth 100000
set_option maxHeartbeats 4000000
namespace L2
open PySem PySem.Spec PyProof.Rows
end L2
set_option Elab.async false
set_option linter.all false
set_option maxRecDepth 100000
set_option maxHeartbeats 4000000
namespace L2
open PySem PySem.Spec PyProof.Rows
noncomputable def leS (a b : Str) : Bool := !ltCps b.cps.toList a.cps.toList
noncomputable def insS (x : Str) : List Str → List Str
  | [] => [x]
  | y :: r => if leS x y = true then x :: y :: r else y :: insS x r
noncomputable def sortS : List Str → List Str
  | [] => []
  | x :: r => insS x (sortS r)
theorem leS_iff (a b : Str) : leS a b = true ↔ ¬ b.cps.toList < a.cps.toList := by
  unfold leS
  rw [ltCps_eq]
  simp
theorem leS_total (a b : Str) : leS a b = true ∨ leS b a = true := by
  rw [leS_iff, leS_iff]
  by_cases h : b.cps.toList < a.cps.toList
  · exact .inr (List.lt_asymm h)
  · exact .inl h
theorem leS_trans {a b c : Str} (h1 : leS a b = true) (h2 : leS b c = true) : leS a c = true := by
  rw [leS_iff] at *
  intro h
  rcases strKind.negTrans c.cps.toList b.cps.toList a.cps.toList (by simpa using h) with z | z
  · exact h2 (by simpa using z)
  · exact h1 (by simpa using z)
theorem leS_antisymm {a b : Str} (h1 : leS a b = true) (h2 : leS b a = true) : a = b := by
  rw [leS_iff] at *
  exact str_ext (List.le_antisymm (List.not_lt.mp h1) (List.not_lt.mp h2))
noncomputable abbrev Sor (l : List Str) : Prop := l.Pairwise fun a b => leS a b = true
theorem rising_sor : ∀ (p : Str) (l : List Str), risingS p l = true → Sor (p :: l)
  | p, [], _ => List.pairwise_singleton _ _
  | p, x :: r, h => by
    have h : (leS p x && risingS x r) = true := h
    rw [Bool.and_eq_true] at h
    have ih := rising_sor x r h.2
    refine List.pairwise_cons.mpr ⟨fun y hy => ?_, ih⟩
    rcases List.mem_cons.mp hy with rfl | hy
    · exact h.1
    · exact leS_trans h.1 ((List.pairwise_cons.mp ih).1 y hy)
theorem sor_of : ∀ {l : List Str}, sortedS l = true → Sor l
  | [], _ => List.Pairwise.nil
  | x :: r, h => rising_sor x r h
theorem ins_perm (x : Str) : ∀ l : List Str, (insS x l).Perm (x :: l)
  | [] => .refl _
  | y :: r => by
    unfold insS
    split
    · exact .refl _
    · exact ((ins_perm x r).cons y).trans (.swap x y r)
theorem sortS_perm : ∀ l : List Str, (sortS l).Perm l
  | [] => .refl _
  | x :: r => (ins_perm x (sortS r)).trans ((sortS_perm r).cons x)
theorem ins_sor (x : Str) : ∀ {l : List Str}, Sor l → Sor (insS x l)
  | [], _ => List.pairwise_singleton _ _
  | y :: r, h => by
    unfold insS
    obtain ⟨h1, h2⟩ := List.pairwise_cons.mp h
    split
    · rename_i hx
      refine List.pairwise_cons.mpr ⟨fun z hz => ?_, h⟩
      rcases List.mem_cons.mp hz with rfl | hz
      · exact hx
      · exact leS_trans hx (h1 z hz)
    · rename_i hx
      refine List.pairwise_cons.mpr ⟨fun z hz => ?_, ins_sor x h2⟩
      rcases List.mem_cons.mp ((ins_perm x r).mem_iff.mp hz) with rfl | hz
      · exact (leS_total y z).resolve_right hx
      · exact h1 z hz
theorem sortS_sor : ∀ l : List Str, Sor (sortS l)
  | [] => .nil
  | x :: r => ins_sor x (sortS_sor r)
theorem sor_unique : ∀ {a b : List Str}, a.Perm b → Sor a → Sor b → a = b
  | [], b, p, _, _ => (List.nil_perm.mp p).symm
  | x :: r, [], p, _, _ => absurd p.symm.nil_eq (by simp)
  | x :: r, y :: t, p, ha, hb => by
    have e : x = y := by
      have h1 : x ∈ y :: t := p.mem_iff.mp List.mem_cons_self
      have h2 : y ∈ x :: r := p.mem_iff.mpr List.mem_cons_self
      rcases List.mem_cons.mp h1 with e | h1
      · exact e
      · rcases List.mem_cons.mp h2 with e | h2
        · exact e.symm
        · exact leS_antisymm ((List.pairwise_cons.mp ha).1 y h2) ((List.pairwise_cons.mp hb).1 x h1)
    subst e
    rw [sor_unique (List.perm_cons _ |>.mp p) (List.pairwise_cons.mp ha).2 (List.pairwise_cons.mp hb).2]
theorem sortS_eq {a b : List Str} (p : a.Perm b) (h : Sor a) : a = sortS b := sor_unique (p.trans (sortS_perm b).symm) h (sortS_sor b)
theorem sortS_congr {a b : List Str} (p : a.Perm b) : sortS a = sortS b := sortS_eq ((sortS_perm a).trans p) (sortS_sor a)
theorem sortS_len (l : List Str) : (sortS l).length = l.length := (sortS_perm l).length_eq
theorem sortS_mem {l : List Str} {x : Str} : x ∈ sortS l ↔ x ∈ l := (sortS_perm l).mem_iff
theorem vals_strsAre {us : List Value} {ss : List Str} (h : StrsAre us ss) : Vals (ss.map V.str) us := by
  induction h with
  | nil => exact .nil
  | cons x t h ih => exact .cons ⟨t, rfl⟩ ih
theorem call_sorted {X : Cx} : CallR X (.builtin "sorted") (fun xs H Q => ∃ p ss, xs = [.ref p] ∧ SqL X.K H p (ss.map V.str) ∧ ss.length < 64 ∧ ∀ l, H l = none → Q (.ref l) (upd H l (.lst ((sortS ss).map V.str)))) := by
  intro pins s σ H xs us Q I r h
  obtain ⟨p, ss, rfl, hS, hl, q⟩ := h
  obtain ⟨u, rfl, rx⟩ := vals1 r
  cases rx
  obtain ⟨its, rv, pl, _⟩ := I.list hS
  have hst := strsAre_of rv
  have hlen : its.length = ss.length := by have := rv.length; rw [List.length_map] at this; exact this.symm
  refine sorted_strs pl.isList hst (by omega) fun out ss' a1 a2 a3 => ?_
  obtain ⟨e, he⟩ := sortedAll_at s.heap its out
  have es : ss' = sortS ss := sortS_eq a2 (sor_of a3)
  subst es
  have hsz : s.heap.objs.size ≤ s.heap.objs.size + 1 := Nat.le_succ _
  refine ⟨.ref (s.heap.objs.size + 1), _, I.laid (t' := s.toks) (fun b u hb => sortedAll_old hb) hsz (show ObjOk X.prog X.w _ _ _ (.lst ((sortS ss).map V.str)) from ⟨?_, out.toList, e, vals_strsAre a1, ?_⟩), rfl, q _ (I.hok.fresh hsz)⟩
  · rw [List.length_map, sortS_len]; exact Nat.le_of_lt (small1000 (by omega))
  · rw [Array.toArray_toList]; exact he
/- what an iterable yields, collected: the heap has grown -/
theorem collect_src {prog : Program} {w : World} {A : Around} {E : Value → Shared → Prop} {s : Shared} {T : String} {r d : Addr} {n : Nat} {P : Nat → Value → Prop} {OK : Heap → Prop} {R : List Value → Shared → Prop}
    (src : PySem.W.KdlSrc prog w T r d n P OK) (calm : A.handled = none) (ok : OK s.heap) (few : n ≤ sizeLine)
    (fin : ∀ (g : Heap) (k : Nat) (got : Array Value), (∀ b o, s.heap.get? b = some o → g.get? b = some o) → s.heap.objs.size < g.objs.size → ItemsOf P got n → R got.toList { s with heap := g, toks := k }) :
    wpAny (model prog w) A (collect (.ref r)) R E s := by
  obtain ⟨lr, ld⟩ := src.there _ ok
  let new : Obj := { cls := .type "list", data := .seq ([] : List Value).toArray }
  have there : (s.heap.push new).get? s.heap.objs.size = some new := Heap.get?_push_size _ rfl
  have still := src.keep _ _ ok (fun b _ o e => Heap.get?_push_of_some (h := s.heap) new e)
  have walked := PySem.W.kdl_extend (A := A) (s := { s with heap := s.heap.push new })
    (R := fun q t => ∃ (g : Heap) (k : Nat) (got : Array Value) (c : Nat), q = Except.ok (Flow.ret (.ref s.heap.objs.size)) ∧ t = { s with heap := g, toks := k } ∧ (∀ b o, s.heap.get? b = some o → g.get? b = some o) ∧
      g.get? s.heap.objs.size = some { cls := .type "list", dict := none, data := .seq got c, slots := #[] } ∧ ItemsOf P got n)
    src calm still s.heap.objs.size (Nat.ne_of_gt lr) (Nat.ne_of_gt ld) (.ref s.heap.objs.size) 0 there
    (fun g k got c keep at' all => ⟨g, k, got, c, rfl, rfl, fun b o e => keep b o (Nat.ne_of_lt (Heap.lt_size e)) (Heap.get?_push_of_some _ e), at', all⟩) few
  have done : ∀ (g : Heap) (k : Nat) (got : Array Value) (c : Nat), (∀ b o, s.heap.get? b = some o → g.get? b = some o) → g.get? s.heap.objs.size = some { cls := .type "list", dict := none, data := .seq got c, slots := #[] } → ItemsOf P got n →
      wpAny (model prog w) A (do match (← load s.heap.objs.size).data with
        | .seq xs _ => pure xs.toList
        | _ => unsupported "internal:collect") R E { s with heap := g, toks := k } := fun g k got c keep at' all =>
    wpAny_bind (wpAny_load at' (wpAny_pure (fin g k got keep (Heap.lt_size at') all)))
  unfold collect
  apply wpAny_bind
  apply wpAny_runValue
  apply codeAny_builtin entry_proto_collect'
  rw [Around.under_plainId F.plain_proto_collect _]
  show wpAny _ A.in1 (newList [] >>= fun z => again (.builtin "list.__iadd__" ⟨[z, .ref r], []⟩)) _ _ s
  apply wpAny_bind
  refine wpAny_newObj_type ?_
  apply wpAny_pure
  refine ⟨plainId_quiet F.plain_list_iadd _, ?_⟩
  apply codeAny_builtin entry_list_iadd'
  rw [Around.under_plainId F.plain_list_iadd _]
  refine wpAny_mono walked (fun f t q => ?_) (fun e t q => ?_)
  · cases f with
    | done f =>
      obtain ⟨g, k, got, c, e, rfl, keep, at', all⟩ := q
      cases e
      exact done g k got c keep at' all
    | again c1 =>
      refine ⟨q.1, codeAny_mono q.2 fun z t2 y => ?_⟩
      obtain ⟨g, k, got, c, rfl, rfl, keep, at', all⟩ := y
      exact done g k got c keep at' all
  · obtain ⟨_, _, _, _, e', _⟩ := q
    cases e'
theorem call_sorted_dict {X : Cx} (hc : X.calm = true) : CallR X (.builtin "sorted") (fun xs H Q => ∃ p kvs ss, xs = [.ref p] ∧ H p = some (.dK kvs) ∧ kvs.map (fun kv => kV kv.1) = ss.map V.str ∧ ss.length < 64 ∧ ∀ l, H l = none → Q (.ref l) (upd H l (.lst ((sortS ss).map V.str)))) := by
  intro pins s σ H xs us Q I r h
  obtain ⟨p, kvs, ss, rfl, hp, hks, hl, q⟩ := h
  obtain ⟨u, rfl, rx⟩ := vals1 r
  cases rx
  obtain ⟨hz, hlo, vs, rv, o, es, ep, h1, h2, h3, h4, h5, h6⟩ := dk_of I.hok hp
  have da : s.heap.DictAt (mixKind X.prog X.w) p vs ep := ⟨o, es, h1, h2, h3, h4, h5, h6⟩
  have hlen : kvs.length = vs.length := KV.length rv
  have hh : X.A.in1.handled = none := I.ok.hd hc
  refine Calls.call_function_entry kind_sorted plain_sorted entry_sorted (args_sorted1 _) ?_
  unfold Builtin.«sorted»
  refine wpAny_bind (m := checkCount "sorted" 1 1 _) (wpAny_pure ?_)
  refine wpAny_bind (collect_src (A := X.A.in1) (PySem.W.kdl_dict hlo) hh da (by rw [← hlen]; exact hz) fun h' tk acc hk hgr hacc => ?_)
  have hv : Vals (kvs.map fun kv => kV kv.1) acc.toList := by
    refine vals_of_get (by rw [List.length_map, hlen]; exact hacc.1.symm.trans (by simp)) fun j x u e1 e2 => ?_
    rw [List.getElem?_map] at e1
    cases hj : kvs[j]? with
    | none => rw [hj] at e1; cases e1
    | some kv =>
      rw [hj] at e1
      cases e1
      obtain ⟨k, y, e3, e4⟩ := hacc.2 j u (by rw [← Array.getElem?_toList]; exact e2)
      have ek : kv.1 = k := KV.at rv hj e3
      show RelV (kV kv.1) u
      rw [ek]
      rcases keyIs_shape (show keyIs k u = true from e4) with ⟨i, t, rfl, rfl⟩ | ⟨z, t, rfl, rfl⟩
      · exact ⟨t, rfl⟩
      · exact ⟨t, rfl⟩
  rw [hks] at hv
  have hst := strsAre_of hv
  have hal : acc.toList.length = ss.length := by have := hv.length; rw [List.length_map] at this; exact this.symm
  refine wpAny_bind (wpAny_newList ?_ (by rw [hal]; exact Nat.le_of_lt (small1000 (by omega))))
  have hoL : (h'.push (seqObj "list" acc.toList.toArray 0)).get? h'.objs.size = some (seqObj "list" acc.toList.toArray 0) := Heap.get?_push_size _ rfl
  refine wpAny_bind (wpAny_holding (wpAny_call_entry slot_list_sort ⟨_, hoL, rfl⟩ entry_list_sort (list_sort_treeK strKind_oneLt hoL hst.keysOf (fun v₁ v₂ rest e => keyKind_strs (by rw [← e]; exact hst)) (by omega) fun st' a1 a2 => ⟨_, rfl, ?_⟩) (args_list_sort _)))
  refine wpAny_pure ⟨_, rfl, ?_⟩
  obtain ⟨ss', b1, b2, b3⟩ := sorted_out_str hst a1 a2
  obtain ⟨e, he⟩ := sortedHeap_at (out := (arrOf st').map (·.2)) hoL
  have es' : ss' = sortS ss := sortS_eq b2 (sor_of b3)
  subst es'
  have hsz : s.heap.objs.size ≤ h'.objs.size := Nat.le_of_lt hgr
  refine ⟨.ref h'.objs.size, _, I.laid (t' := tk) (fun b u hb => ?_) hsz (show ObjOk X.prog X.w _ _ _ (.lst ((sortS ss).map V.str)) from ⟨?_, ((arrOf st').map (·.2)).toList, e, vals_strsAre b1, ?_⟩), rfl, q _ (I.hok.fresh hsz)⟩
  · have hb' := hk b u hb
    have hlt := Heap.lt_size hb'
    rw [sortedHeap_old (Nat.ne_of_lt hlt) (by rw [size_push']; exact Nat.lt_succ_of_lt hlt)]
    exact Heap.get?_push_of_some _ hb'
  · rw [List.length_map, sortS_len]; exact Nat.le_of_lt (small1000 (by omega))
  · rw [Array.toArray_toList]; exact he
end L2
set_option Elab.async false
set_option linter.all false
set_option maxRecDepth 100000
set_option maxHeartbeats 4000000
namespace L2
open PySem PySem.Spec PyProof.Rows
theorem remove_run {prog : Program} {w : World} {A : Around} {R : Result → Shared → Prop} {s : Shared} {l : Addr} {its : Array Value} {n : Nat} {y : Value} {j : Nat} (at' : s.heap.get? l = some { cls := .type "list", dict := none, data := .seq its n, slots := #[] })
    (hj : j < its.size) (hz : its.size ≤ sizeLine) (eqs : ∀ (m : Nat) (hm : m < its.size), m ≤ j → ∀ (B : Around) (E : Value → Shared → Prop) (Q : Bool → Shared → Prop), B.units = A.units + 1 → Q (decide (m = j)) s → wpAny (model prog w) B (eqBool its[m] y) Q E s)
    (fin : R (.ok (.ret .none)) { s with heap := s.heap.update l (Obj.mapSeq fun xs => xs.eraseIdxIfInBounds j) }) :
    ∀ (k i : Nat), i + k = j → codeAny (model prog w) A (.builtin "list.remove.loop" ⟨[.ref l, y, rawInt i], []⟩) R s := by
  intro k
  induction k with
  | zero =>
    intro i e
    obtain rfl : i = j := by omega
    refine codeAny_builtin MeetsSeq.entry_remove_loop ?_
    rw [Around.under_plainId MeetsSeq.plain_remove_loop _]
    obtain ⟨hp, g, d, tk, os⟩ := s
    wp_walk using wpAny_loadPart' at'
    rw [show its[((i : Nat) : Int).toNat]? = some its[i] by simp [hj]]
    refine wpAny_bind (eqs i hj (Nat.le_refl _) _ _ _ rfl ?_)
    rw [decide_eq_true rfl]
    have hz' : (its.eraseIdxIfInBounds i).size ≤ sizeLine + 1 := Nat.le_trans (MeetsSeq.size_erased its _) (Nat.le_succ_of_le hz)
    wp_walk using (wpAny_updateSeq at' rfl (hz := hz) (_hz' := hz')), wpAny_loadPart' at'
    simpa using fin
  | succ k ih =>
    intro i e
    have hlt : i < its.size := by omega
    have next := ih (i + 1) (by omega)
    refine codeAny_builtin MeetsSeq.entry_remove_loop ?_
    rw [Around.under_plainId MeetsSeq.plain_remove_loop _]
    obtain ⟨hp, g, d, tk, os⟩ := s
    wp_walk using wpAny_loadPart' at'
    rw [show its[((i : Nat) : Int).toNat]? = some its[i] by simp [hlt]]
    refine wpAny_bind (eqs i hlt (by omega) _ _ _ rfl ?_)
    rw [decide_eq_false (by omega)]
    wp_walk
    rw [show ((i : Int) + 1) = ((i + 1 : Nat) : Int) by push_cast; rfl]
    exact ⟨plainId_quiet MeetsSeq.plain_remove_loop _, next⟩
inductive rRemove_I (K : PySem.W.Frag) (x : V) (vs : List V) (H : Hp) (Q : VK) : Prop
  | mk : ∀ (l : Addr) (xs : List V) (ds : List PyData) (y : V) (d : PyData) (j : Nat), x = .ref l → vs = [y] → H l = some (.lst xs) → RDs K H xs ds → RD K H y d → (∀ e ∈ ds, SeqAt.shaped e = true) → SeqAt.shaped d = true → j < ds.length → ((∀ (m : Nat) (e : PyData), m ≤ j → ds[m]? = some e → PyData.eqv e d = decide (m = j))) → Q .non (upd H l (.lst (xs.eraseIdx j))) → rRemove_I K x vs H Q
noncomputable def rRemove (K : PySem.W.Frag) : V → List V → Hp → VK → Prop := fun x vs H Q => rRemove_I K x vs H Q
theorem RDs.len {K : PySem.W.Frag} {H : Hp} {xs : List V} {ds : List PyData} (h : RDs K H xs ds) : xs.length = ds.length :=
  RDs.rec (motive_1 := fun _ _ _ => True) (motive_2 := fun xs ds _ => xs.length = ds.length) trivial (fun _ => trivial) (fun _ => trivial) (fun _ => trivial) (fun _ _ _ => trivial) (fun _ _ _ => trivial) rfl (fun _ _ _ ih => congrArg Nat.succ ih) h
theorem RDs.at {K : PySem.W.Frag} {H : Hp} {xs : List V} {ds : List PyData} {m : Nat} {x : V} (h : RDs K H xs ds) (e : xs[m]? = some x) : ∃ d, ds[m]? = some d ∧ RD K H x d := by
  refine RDs.rec (K := K) (H := H) (motive_1 := fun _ _ _ => True) (motive_2 := fun xs ds _ => ∀ m : Nat, xs[m]? = some x → ∃ d, ds[m]? = some d ∧ RD K H x d) trivial (fun _ => trivial) (fun _ => trivial) (fun _ => trivial) (fun _ _ _ => trivial) (fun _ _ _ => trivial) (fun m e => ?_) (fun h _ _ ih m e => ?_) h m e
  · rw [List.getElem?_nil] at e; exact nomatch e
  · cases m with
    | zero => cases e; exact ⟨_, rfl, h⟩
    | succ m => exact ih m e
theorem Vals.erase {xs : List V} {us : List Value} (j : Nat) (h : Vals xs us) : Vals (xs.eraseIdx j) (us.eraseIdx j) := by
  induction h generalizing j with
  | nil => exact .nil
  | cons q t ih =>
    cases j with
    | zero => exact t
    | succ j => exact .cons q (ih j)
theorem remove_meets {s : Shared} {l : Addr} {its : Array Value} {n c : Nat} {u : Value} {j : Nat} (at' : s.heap.get? l = some { cls := .type "list", dict := none, data := .seq its n, slots := #[] }) (hj : j < its.size) (hz : its.size ≤ sizeLine)
    (eqs : ∀ (prog : Program) (w : World) (m : Nat) (hm : m < its.size), m ≤ j → ∀ (B : Around) (E : Value → Shared → Prop) (Q : Bool → Shared → Prop), B.units = c + 1 → Q (decide (m = j)) s → wpAny (model prog w) B (eqBool its[m] u) Q E s) :
    Meets (Builtin.«list.remove» ⟨[.ref l, u], []⟩) (fun B R t => t = s ∧ B.units = c ∧ R (.ok (.ret .none)) { s with heap := s.heap.update l (Obj.mapSeq fun ws => ws.eraseIdxIfInBounds j) }) := by
  rintro prog w B R t ⟨rfl, hB, fin⟩
  have go := remove_run (A := B) (R := R) at' hj hz (fun m hm hle B' E Q hB' => eqs prog w m hm hle B' E Q (by omega)) fin j 0 (by omega)
  obtain ⟨hp, g, d, tk, os⟩ := t
  wp_walk using wpAny_loadPart' at'
  exact ⟨plainId_quiet MeetsSeq.plain_remove_loop _, go⟩
theorem mt_remove {X : Cx} (hu : X.A.units + 70 < cLine) : MtM X "list.remove" (rRemove X.K) := by
  intro pins s σ H x vs v us Q I rx rv h
  obtain ⟨l, xs, ds, y, d, j, rfl, rfl, hH, hds, hd, sds, sd, hj, hm, q⟩ := h
  cases rx
  obtain ⟨u, rfl, ru⟩ := vals1 rv
  obtain ⟨z, its, n, r, hl, e⟩ := I.lstM hH
  have hlen := hds.len
  have hz' : its.toArray.size ≤ sizeLine := by rw [List.size_toArray]; omega
  have hj' : j < its.toArray.size := by rw [List.size_toArray]; omega
  refine call_meets F.slot_list_remove ⟨_, e, rfl⟩ F.entry_list_remove (F.args_list_remove_2 _ _) (remove_meets (s := s) (c := X.A.units) (j := j) e hj' hz' ?_) ⟨rfl, rfl, ?_⟩
  · intro prog w m hmm hle B E' Q' hB q'
    rw [List.size_toArray] at hmm
    obtain ⟨xm, exm⟩ : ∃ xm, xs[m]? = some xm := ⟨_, List.getElem?_eq_getElem (by omega)⟩
    obtain ⟨dm, edm, rdm⟩ := hds.at exm
    obtain ⟨um, eum, rum⟩ := r.get exm
    have eu : its.toArray[m]'(by rw [List.size_toArray]; exact hmm) = um := by
      rw [List.getElem?_eq_getElem hmm] at eum
      simpa using Option.some.inj eum
    rw [eu]
    obtain ⟨as, ra⟩ := rdm.reads I rum
    obtain ⟨bs, rb⟩ := hd.reads I ru
    have s1 := sds dm (List.mem_of_getElem? edm)
    refine SeqAt.eqBoolOverData prog w B E' s um u dm d as bs Q' ra rb (SeqAt.canLay_of_shaped s1) (SeqAt.canLay_of_shaped sd) ?_ ?_
    · have h1 := SeqAt.depth_of_shaped s1
      have h2 : min dm.depth d.depth ≤ dm.depth := Nat.min_le_left _ _
      omega
    · rw [hm m dm hle edm]
      exact q'
  · refine ⟨.non, _, I.lset (its' := its.eraseIdx j) (ys := xs.eraseIdx j) hH e ?_ (Vals.erase j r) ?_, rfl, q⟩
    · simp
    · have := List.length_eraseIdx_le xs j
      omega
end L2
set_option Elab.async false
set_option linter.all false
set_option maxRecDepth 100000
set_option maxHeartbeats 4000000
namespace L2
open PySem PySem.Spec PyProof.Rows
end L2
set_option Elab.async false
set_option linter.all false
set_option maxRecDepth 100000
set_option maxHeartbeats 4000000
namespace L2
open PySem PySem.Spec PyProof.Rows
noncomputable abbrev Rows := List (Str × Str)
noncomputable def up (rows : Rows) (n : Str) : Option Str := (rows.find? fun r => decide (r.1 = n)).map (·.2)
noncomputable def reps (rows : Rows) (t : Str) : List Str := (rows.filter fun r => decide (r.2 = t)).map (·.1)
noncomputable def rowsK (rows : Rows) : List (Key × V) := rows.map fun r => (Sum.inr r.1, V.str r.2)
noncomputable def keysT (ns : List Str) : List (Key × V) := ns.map fun n => (Sum.inr n, V.bl true)
noncomputable def without (rows : Rows) (n : Str) : Rows := rows.filter fun r => decide (r.1 ≠ n)
theorem val_rows (n : Str) : ∀ rows : Rows, valV (rowsK rows) (Sum.inr n) = (up rows n).map V.str
  | [] => rfl
  | r :: rows => by
    show valV ((Sum.inr r.1, V.str r.2) :: rowsK rows) (Sum.inr n) = _
    by_cases h : r.1 = n
    · rw [valV_pos (by rw [h])]
      simp [up, List.find?_cons, h]
    · rw [valV_neg (fun e => h (Sum.inr.inj e)), val_rows n rows]
      simp [up, List.find?_cons, h]
theorem up_mem {rows : Rows} {n a : Str} (h : up rows n = some a) : (n, a) ∈ rows := by
  unfold up at h
  cases e : rows.find? fun r => decide (r.1 = n) with
  | none => rw [e] at h; cases h
  | some r =>
    rw [e] at h
    have h1 := List.find?_some e
    have h2 := List.mem_of_find?_eq_some e
    have e1 : r.1 = n := of_decide_eq_true h1
    have e2 : r.2 = a := Option.some.inj h
    rw [← e1, ← e2]; exact h2
theorem up_none {rows : Rows} {n : Str} : up rows n = none ↔ ¬ n ∈ rows.map (·.1) := by
  unfold up
  rw [Option.map_eq_none_iff, List.find?_eq_none]
  constructor
  · intro h z
    obtain ⟨r, hr, e⟩ := List.mem_map.mp z
    exact h r hr (decide_eq_true e)
  · intro h r hr z
    exact h (List.mem_map.mpr ⟨r, hr, of_decide_eq_true z⟩)
theorem up_some {rows : Rows} {n : Str} (h : n ∈ rows.map (·.1)) : ∃ a, up rows n = some a := by
  cases e : up rows n with
  | none => exact absurd h (up_none.mp e)
  | some a => exact ⟨a, rfl⟩
theorem drop_rows (n : Str) : ∀ rows : Rows, dropK (rowsK rows) (Sum.inr n) = rowsK (without rows n)
  | [] => rfl
  | r :: rows => by
    show dropK ((Sum.inr r.1, V.str r.2) :: rowsK rows) (Sum.inr n) = _
    by_cases h : r.1 = n
    · rw [dropK_pos (by rw [h]), drop_rows n rows]
      simp [without, List.filter_cons, h]
    · rw [dropK_neg (fun e => h (Sum.inr.inj e)), drop_rows n rows]
      simp [without, List.filter_cons, h, rowsK]
theorem drop_keys (n : Str) : ∀ ns : List Str, dropK (keysT ns) (Sum.inr n) = keysT (ns.filter fun m => decide (m ≠ n))
  | [] => rfl
  | m :: ns => by
    show dropK ((Sum.inr m, V.bl true) :: keysT ns) (Sum.inr n) = _
    by_cases h : m = n
    · rw [dropK_pos (by rw [h]), drop_keys n ns]
      simp [List.filter_cons, h]
    · rw [dropK_neg (fun e => h (Sum.inr.inj e)), drop_keys n ns]
      simp [List.filter_cons, h, keysT]
theorem val_keys (n : Str) : ∀ ns : List Str, valV (keysT ns) (Sum.inr n) = if n ∈ ns then some (V.bl true) else none
  | [] => rfl
  | m :: ns => by
    show valV ((Sum.inr m, V.bl true) :: keysT ns) (Sum.inr n) = _
    by_cases h : m = n
    · rw [valV_pos (by rw [h]), if_pos (by rw [h]; exact List.mem_cons_self)]
    · rw [valV_neg (fun e => h (Sum.inr.inj e)), val_keys n ns]
      by_cases h2 : n ∈ ns
      · rw [if_pos h2, if_pos (List.mem_cons_of_mem _ h2)]
      · rw [if_neg h2, if_neg (fun z => (List.mem_cons.mp z).elim (fun e => h e.symm) h2)]
theorem put_rows {rows : Rows} {n a : Str} (h : up rows n = none) : putK (rowsK rows) (Sum.inr n) (.str a) = rowsK (rows ++ [(n, a)]) := by
  rw [putK_new _ (by rw [val_rows, h]; rfl)]
  simp [rowsK]
theorem put_keys {ns : List Str} {n : Str} (h : ¬ n ∈ ns) : putK (keysT ns) (Sum.inr n) (.bl true) = keysT (ns ++ [n]) := by
  rw [putK_new _ (by rw [val_keys, if_neg h])]
  simp [keysT]
theorem reps_snoc (rows : Rows) (n a t : Str) : reps (rows ++ [(n, a)]) t = reps rows t ++ if a = t then [n] else [] := by
  unfold reps
  rw [List.filter_append, List.map_append]
  by_cases h : a = t <;> simp [List.filter_cons, h]
theorem reps_sub {rows : Rows} {t n : Str} (h : n ∈ reps rows t) : n ∈ rows.map (·.1) := by
  obtain ⟨r, hr, e⟩ := List.mem_map.mp h
  exact List.mem_map.mpr ⟨r, (List.mem_filter.mp hr).1, e⟩
theorem reps_without (rows : Rows) (n t : Str) : reps (without rows n) t = (reps rows t).filter fun m => decide (m ≠ n) := by
  unfold reps without
  rw [List.filter_map, List.filter_filter, List.filter_filter]
  congr 1
  refine List.filter_congr fun r _ => ?_
  show (decide (r.2 = t) && decide (r.1 ≠ n)) = (decide (r.1 ≠ n) && decide (r.2 = t))
  rw [Bool.and_comm]
theorem reps_len (rows : Rows) (t : Str) : (reps rows t).length ≤ rows.length := by
  unfold reps
  rw [List.length_map]
  exact List.length_filter_le _ _
theorem one_answer {rows : Rows} {n a b : Str} (nd : (rows.map (·.1)).Nodup) (h1 : (n, a) ∈ rows) (h2 : (n, b) ∈ rows) : a = b := by
  induction rows with
  | nil => cases h1
  | cons r rows ih =>
    rw [List.map_cons, List.nodup_cons] at nd
    rcases List.mem_cons.mp h1 with e1 | h1
    · rcases List.mem_cons.mp h2 with e2 | h2
      · rw [← e2] at e1; exact (Prod.mk.inj e1).2
      · exact absurd (List.mem_map.mpr ⟨_, h2, by rw [← e1]⟩) nd.1
    · rcases List.mem_cons.mp h2 with e2 | h2
      · exact absurd (List.mem_map.mpr ⟨_, h1, by rw [← e2]⟩) nd.1
      · exact ih nd.2 h1 h2
theorem not_reps {rows : Rows} {n a t : Str} (nd : (rows.map (·.1)).Nodup) (h : up rows n = some a) (ht : t ≠ a) : ¬ n ∈ reps rows t := fun z => by
  obtain ⟨r, hr, e⟩ := List.mem_map.mp z
  obtain ⟨h1, h2⟩ := List.mem_filter.mp hr
  have e2 : r.2 = t := of_decide_eq_true h2
  have : (n, t) ∈ rows := by rw [← e, ← e2]; exact h1
  exact ht (one_answer nd this (up_mem h))
theorem filter_not {l : List Str} {n : Str} (h : ¬ n ∈ l) : (l.filter fun m => decide (m ≠ n)) = l := List.filter_eq_self.mpr fun m hm => decide_eq_true fun e => h (e ▸ hm)
theorem in_reps {rows : Rows} {n a : Str} (h : up rows n = some a) : n ∈ reps rows a := List.mem_map.mpr ⟨(n, a), List.mem_filter.mpr ⟨up_mem h, decide_eq_true rfl⟩, rfl⟩
theorem without_nd {rows : Rows} {n : Str} (nd : (rows.map (·.1)).Nodup) : ((without rows n).map (·.1)).Nodup := by
  unfold without
  exact List.Nodup.sublist (List.Sublist.map _ List.filter_sublist) nd
theorem snoc_nd {rows : Rows} {n a : Str} (nd : (rows.map (·.1)).Nodup) (h : up rows n = none) : ((rows ++ [(n, a)]).map (·.1)).Nodup := by
  rw [List.map_append]
  refine List.nodup_append.mpr ⟨nd, by simp, fun x hx y hy e => ?_⟩
  have : y = n := by simpa using hy
  rw [e, this] at hx
  exact up_none.mp h hx
noncomputable def chain (rows : Rows) : Nat → List Str → List Str
  | 0, met => met
  | k + 1, met => match up rows (met.getLastD "") with
    | some a => if a ∈ rows.map (·.1) ∧ ¬ a ∈ met then chain rows k (met ++ [a]) else met
    | none => met
noncomputable def depthOf (rows : Rows) (n : Str) : Int := ((chain rows rows.length [n]).length : Int) - 1
theorem chain_go {rows : Rows} {met : List Str} {a : Str} {k : Nat} (h : up rows (met.getLastD "") = some a) (h1 : a ∈ rows.map (·.1)) (h2 : ¬ a ∈ met) : chain rows (k + 1) met = chain rows k (met ++ [a]) := by
  conv => lhs; unfold chain
  rw [h]
  simp only [if_pos (And.intro h1 h2)]
theorem chain_end {rows : Rows} {met : List Str} {a : Str} {k : Nat} (h : up rows (met.getLastD "") = some a) (h1 : ¬ (a ∈ rows.map (·.1) ∧ ¬ a ∈ met)) : chain rows (k + 1) met = met := by
  unfold chain
  rw [h]
  exact if_neg h1
theorem nodup_le : ∀ {ms l : List Str}, ms.Nodup → (∀ m ∈ ms, m ∈ l) → ms.length ≤ l.length
  | [], _, _, _ => Nat.zero_le _
  | m :: ms, l, nd, h => by
    obtain ⟨h1, h2⟩ := List.nodup_cons.mp nd
    have hm := h m List.mem_cons_self
    have e := List.length_erase_of_mem hm
    have hp := List.length_pos_of_mem hm
    have := nodup_le (l := l.erase m) h2 fun x hx => (List.mem_erase_of_ne (a := x) (b := m) (fun z => h1 (by rw [← z]; exact hx))).mpr (h x (List.mem_cons_of_mem _ hx))
    rw [List.length_cons]
    omega
/- on the way: met is the way so far, a what its last one answers -/
structure OnWay (rows : Rows) (n : Str) (met : List Str) (a : Str) : Prop where
  nd : met.Nodup
  sub : ∀ m ∈ met, m ∈ rows.map (·.1)
  last : up rows (met.getLastD "") = some a
  ne : met ≠ []
  way : chain rows (rows.length + 1 - met.length) met = chain rows rows.length [n]
theorem OnWay.len {rows : Rows} {n : Str} {met : List Str} {a : Str} (w : OnWay rows n met a) : 1 ≤ met.length ∧ met.length ≤ rows.length := by
  have h1 := nodup_le w.nd w.sub
  rw [List.length_map] at h1
  exact ⟨List.length_pos_iff.mpr w.ne, h1⟩
theorem OnWay.start {rows : Rows} {n a : Str} (h : up rows n = some a) : OnWay rows n [n] a :=
  ⟨by simp, fun m hm => by rw [List.mem_singleton.mp hm]; exact List.mem_map.mpr ⟨_, up_mem h, rfl⟩, h, by simp, rfl⟩
theorem OnWay.step {rows : Rows} {n : Str} {met : List Str} {a b : Str} (w : OnWay rows n met a) (h1 : up rows a = some b) (h2 : ¬ a ∈ met) : OnWay rows n (met ++ [a]) b := by
  have hl := w.len
  have ha : a ∈ rows.map (·.1) := List.mem_map.mpr ⟨_, up_mem h1, rfl⟩
  have e := chain_go (k := rows.length - met.length) w.last ha h2
  refine ⟨List.nodup_append.mpr ⟨w.nd, by simp, fun x hx y hy z => ?_⟩, fun m hm => ?_, ?_, by simp, ?_⟩
  · have : y = a := by simpa using hy
    rw [z, this] at hx; exact h2 hx
  · rcases List.mem_append.mp hm with z | z
    · exact w.sub m z
    · rw [List.mem_singleton.mp z]; exact ha
  · rw [List.getLastD_concat]; exact h1
  · rw [← w.way, List.length_append, List.length_singleton, show rows.length + 1 - (met.length + 1) = rows.length - met.length by omega, ← e, show rows.length - met.length + 1 = rows.length + 1 - met.length by omega]
theorem OnWay.stop {rows : Rows} {n : Str} {met : List Str} {a : Str} (w : OnWay rows n met a) (h : ¬ (a ∈ rows.map (·.1) ∧ ¬ a ∈ met)) : (met.length : Int) - 1 = depthOf rows n := by
  have hl := w.len
  have e := chain_end (k := rows.length - met.length) w.last h
  unfold depthOf
  rw [← w.way, show rows.length + 1 - met.length = rows.length - met.length + 1 by omega, e]
/- all but dicts stays -/
noncomputable def Kp1 (H H' : Hp) : Prop := ∀ c o, H c = some o → (∀ kvs, o ≠ .dK kvs) → H' c = some o
/- all but lists stays -/
noncomputable def Kp2 (H H' : Hp) : Prop := ∀ c o, H c = some o → (∀ xs, o ≠ .lst xs) → H' c = some o
theorem Same.kp2 {H H' : Hp} (s : Same H H') : Kp2 H H' := fun c o e _ => s c o e
theorem Kp1.trans {H H1 H2 : Hp} (a : Kp1 H H1) (b : Kp1 H1 H2) : Kp1 H H2 := fun c o e n => b c o (a c o e n) n
theorem Kp1.upd {H : Hp} {p : Addr} {kvs kvs' : List (Key × V)} (h : H p = some (.dK kvs)) : Kp1 H (upd H p (.dK kvs')) := fun c o e n => by
  by_cases z : c = p
  · rw [z, h] at e; cases e; exact absurd rfl (n kvs)
  · rw [upd_ne z]; exact e
end L2
set_option Elab.async false
set_option linter.all false
set_option maxRecDepth 100000
set_option maxHeartbeats 4000000
namespace L2
open PySem PySem.Spec PyProof.Rows
theorem rep_list (x : Str) : ∀ (n : Nat) (acc : Array Nat), ((List.replicate n x.cps).foldl (· ++ ·) acc).toList = acc.toList ++ (List.replicate n x.cps.toList).flatten
  | 0, acc => by simp
  | n + 1, acc => by
    rw [List.replicate_succ, List.foldl_cons, rep_list x n (acc ++ x.cps), List.replicate_succ, List.flatten_cons, Array.toList_append, List.append_assoc]
theorem mul_signs (x : Str) (n : Int) : (Txt.mul x n).cps.toList = (List.replicate n.toNat x.cps.toList).flatten := by
  unfold Txt.mul
  by_cases h : n < 1
  · rw [if_pos h, show n.toNat = 0 by omega]; rfl
  · rw [if_neg h]
    split
    · rename_i h2
      rw [Bool.or_eq_true] at h2
      rcases h2 with h2 | h2
      · have : n = 1 := by simpa using h2
        rw [this]
        show _ = (List.replicate 1 x.cps.toList).flatten
        simp
      · have h3 : x.cps.toList = [] := List.eq_nil_of_length_eq_zero (by rw [← len_list]; simpa using h2)
        rw [h3]
        simp
    · show ((List.replicate n.toNat x.cps).foldl (· ++ ·) #[]).toList = _
      rw [rep_list]; rfl
theorem mul_len (x : Str) (n : Int) : (Txt.mul x n).length = n.toNat * x.length := by
  rw [len_list, mul_signs, len_list, List.length_flatten]
  simp
theorem mul_mem {x : Str} {n : Int} {c : Nat} (h : c ∈ (Txt.mul x n).cps.toList) : c ∈ x.cps.toList := by
  rw [mul_signs] at h
  obtain ⟨l, h1, h2⟩ := List.mem_flatten.mp h
  rw [(List.mem_replicate.mp h1).2] at h2
  exact h2
inductive rMulS_I (x : V) (y : V) (H : Hp) (Q : VK) : Prop
  | mk : ∀ (s : Str) (n : Int), x = .str s → y = .int n → s.length ≤ 100 → -1000 ≤ n → n ≤ 1000 → Q (.str (Txt.mul s n)) H → rMulS_I x y H Q
noncomputable def rMulS : R2 := fun x y H Q => rMulS_I x y H Q
theorem op_mul_str {X : Cx} : OpR X (binaryOp .Mult) rMulS := by
  intro pins s σ H x y v u Q I rx ry h
  obtain ⟨z, n, rfl, rfl, hz, h0, h1, q⟩ := h
  obtain ⟨t, rfl⟩ := rx
  obtain ⟨t', rfl⟩ := ry
  refine SB.mul ⟨?_, fun hn _ => ?_, fun hn _ => ?_⟩ fun t' k => ⟨.str _, H, I.tok _, ⟨_, rfl⟩, q⟩
  · rw [Bool.or_eq_false_iff]
    exact ⟨decide_eq_false (by omega), decide_eq_false (by omega)⟩
  · have h4 : (z.length : Int) * n ≤ 100 * 1000 := Int.mul_le_mul (by omega) h1 (by omega) (by decide)
    have h5 : (z.length : Int) ≤ (2 ^ 63 - 1) / n := Int.le_ediv_of_mul_le (by omega) (Int.le_trans h4 (by decide))
    omega
  · have h2 : z.length * n.toNat ≤ 100 * 1000 := Nat.mul_le_mul hz (by omega)
    have h3 : 100 * 1000 ≤ sizeLine := by decide
    unfold Builtin.Str.tooLong
    exact decide_eq_false (by omega)
end L2
set_option Elab.async false
set_option linter.all false
set_option maxRecDepth 100000
set_option maxHeartbeats 4000000
namespace L2
open PySem PySem.Spec PyProof.Rows
end L2
set_option Elab.async false
set_option linter.all false
set_option maxRecDepth 100000
set_option maxHeartbeats 4000000
namespace L2
open PySem PySem.Spec PyProof.Rows
section
variable {X : Cx} {pins : List (Addr × Obj)} {σ : St} {H : Hp} {s : Shared} {a : Addr} {oa : Obj} {kvs : List (Key × V)}
theorem Inv.freeze (I : Inv X pins σ H s) (e : H a = some (.dK kvs)) : ∃ oa, Inv X pins σ (upd H a (.frz oa (.dK kvs))) s := by
  obtain ⟨z, y, vs, r, ob, es, ep, eo, c⟩ := (show ObjOk X.prog X.w H s.heap a (.dK kvs) from I.hok a _ e)
  exact ⟨ob, I.write (x := a) (e := a) (o := .frz ob (.dK kvs)) (t' := s.toks) (h' := s.heap) (by rw [e]; exact True.intro) (.inl rfl) (fun _ _ _ q => q) ⟨ob, eo⟩ ⟨eo, z, y, vs, r, ob, es, ep, eo, c⟩⟩
theorem Inv.thaw (I : Inv X pins σ H s) (nf : ∀ o u, X.H₀ a ≠ some (.frz o u)) (e : H a = some (.frz oa (.dK kvs))) : Inv X pins σ (upd H a (.dK kvs)) s := by
  have ne0 : ∀ b, H b = none → b ≠ a := fun b n z => by rw [z, e] at n; cases n
  have ne1 : ∀ b o, H b = some o → o ≠ .frz oa (.dK kvs) → b ≠ a := fun b o q n z => by rw [z, e] at q; cases q; exact n rfl
  obtain ⟨_, okd⟩ := (show ObjOk X.prog X.w H s.heap a (.frz oa (.dK kvs)) from I.hok a _ e)
  refine ⟨I.ok, I.os, I.bare, ⟨I.base.keep, I.base.slot, fun b o q n hx => ?_, I.base.there, fun b xs q => ?_, fun b o u q => ?_, fun b ps q => ?_⟩, I.loc, I.cell, ?_, fun x c q => ?_, fun p hp => ?_, fun b u q => ?_, I.len⟩
  · have := I.base.free b o q n hx
    rw [upd_ne (ne0 b this)]; exact this
  · have := I.base.tups b xs q
    rw [upd_ne (ne1 b _ this (fun z => by cases z))]; exact this
  · have hb : b ≠ a := fun z => nf o u (by rw [← z]; exact q)
    rw [upd_ne hb]; exact I.base.frzs b o u q
  · obtain ⟨m, h⟩ := I.base.tbls b ps q
    exact ⟨m, by rw [upd_ne (ne1 b _ h (fun z => by cases z))]; exact h⟩
  · rw [upd_ne (ne0 _ I.free)]; exact I.free
  · rw [upd_ne (ne0 _ (I.freeC x c q))]; exact I.freeC x c q
  · obtain ⟨h1, h2, h3⟩ := I.pin p hp
    exact ⟨h1, by rw [upd_ne (ne0 _ h2)]; exact h2, h3⟩
  · by_cases hb : b = a
    · subst hb
      rw [upd_same] at q
      cases q
      exact ObjOk.stay (show ObjOk X.prog X.w H s.heap b (.dK kvs) from okd) (fun _ _ _ z => z) (fun c z => by rw [upd_ne (ne1 c _ z (fun y => by cases y))]; exact z) fun c xs z => by rw [upd_ne (ne1 c _ z (fun y => by cases y))]; exact z
    · rw [upd_ne hb] at q
      exact (I.hok b u q).stay (fun _ _ _ z => z) (fun c z => by rw [upd_ne (ne1 c _ z (fun y => by cases y))]; exact z) fun c xs z => by rw [upd_ne (ne1 c _ z (fun y => by cases y))]; exact z
end
noncomputable def thawD (a : Addr) (oa : Obj) (kvs : List (Key × V)) (D : Ends) : Ends :=
  { nx := fun σ H => H a = some (.frz oa (.dK kvs)) ∧ D.nx σ (upd H a (.dK kvs)), rt := fun v H => H a = some (.frz oa (.dK kvs)) ∧ D.rt v (upd H a (.dK kvs)),
    bk := fun σ H => H a = some (.frz oa (.dK kvs)) ∧ D.bk σ (upd H a (.dK kvs)), ct := fun σ H => H a = some (.frz oa (.dK kvs)) ∧ D.ct σ (upd H a (.dK kvs)) }
inductive tFast_I (ts : TS) (D : Ends) (σ : St) (H : Hp) : Prop
  | mk : ∀ a kvs, H a = some (.dK kvs) → (∀ oa, ts (thawD a oa kvs D) σ (upd H a (.frz oa (.dK kvs)))) → tFast_I ts D σ H
noncomputable def tFast (ts : TS) : TS := fun D σ H => tFast_I ts D σ H
/- a statement while a dict that is there is held fast -/
theorem ps_fast {X : Cx} {st : Stmt} {ts : TS} (hb : PS X st ts) : PS X st (tFast ts) := by
  rintro pins s σ H D I ⟨a, kvs, e, h⟩
  obtain ⟨oa, J⟩ := I.freeze e
  have nf : ∀ o u, X.H₀ a ≠ some (.frz o u) := fun o u z => by have := I.base.frzs a o u z; rw [e] at this; cases this
  refine thn (hb pins s σ _ _ J (h oa)) fun f s' q => ?_
  cases f with
  | next => obtain ⟨σ7, H7, I7, n7⟩ := q; exact ⟨σ7, _, I7.thaw nf n7.1, n7.2⟩
  | cont => obtain ⟨σ7, H7, I7, n7⟩ := q; exact ⟨σ7, _, I7.thaw nf n7.1, n7.2⟩
  | brk => obtain ⟨σ7, H7, I7, n7⟩ := q; exact ⟨σ7, _, I7.thaw nf n7.1, n7.2⟩
  | ret v => obtain ⟨x7, σ7, H7, I7, r7, n7⟩ := q; exact ⟨x7, σ7, _, I7.thaw nf n7.1, r7, n7.2⟩
/- the keys of a dict that is held fast, one by one -/
noncomputable def Itd (a : Addr) (oa : Obj) (kvs : List (Key × V)) : It := ⟨fun i H => H a = some (.frz oa (.dK kvs)) ∧ i < kvs.length, fun i H x H' => H' = H ∧ ∃ kv, kvs[i]? = some kv ∧ x = kV kv.1, fun i H => H a = some (.frz oa (.dK kvs)) ∧ kvs.length ≤ i⟩
theorem fast_of {P : Program} {w : World} {H : Hp} {h : Heap} {a : Addr} {oa : Obj} {kvs : List (Key × V)} (ok : HOk P w H h) (e : H a = some (.frz oa (.dK kvs))) :
    (a == sysModules) = false ∧ ∃ vs es ep, KV kvs vs ∧ oa.data = .dict es ep ∧ h.DictAt (mixKind P w) a vs ep := by
  obtain ⟨e1, z, y, vs, r, ob, es, ep, eo, c1, c2, c3⟩ := (show ObjOk P w H h a (.frz oa (.dK kvs)) from ok a _ e)
  rw [e1] at eo
  cases eo
  exact ⟨y, vs, es, ep, r, c2, oa, es, e1, c1, c2, c3⟩
theorem rel_key {P : Program} {w : World} {k : Key} {u : Value} (e : (mixKind P w).is k u = true) : RelV (kV k) u := by
  rcases keyIs_shape (show keyIs k u = true from e) with ⟨i, t, rfl, rfl⟩ | ⟨z, t, rfl, rfl⟩
  · exact ⟨t, rfl⟩
  · exact ⟨t, rfl⟩
theorem turn_dict {P : Program} {w : World} {K : PySem.W.Frag} {tg : Expr} (a it : Addr) (oa : Obj) (kvs : List (Key × V)) (es : Array DictEntry) (ep : Nat) (hd : oa.data = .dict es ep) : Turn P w K tg (Itd a oa kvs) [it] it (fun i h => h.IsKeyIter it a i kvs.length ep) where
  mem := by simp
  obj := fun i h st b hb => by
    have e : b = it := by simpa using hb
    subst e
    obtain ⟨o, e, c, d⟩ := st
    exact ⟨o, e, fun v z => by rw [d] at z; cases z⟩
  keep := fun i h h' st k => by
    obtain ⟨o, e, c⟩ := st
    exact ⟨o, k it (by simp) o e, c⟩
  item := by
    intro X hP hw hK hc i pins s σ H E I hf st hg
    subst hP hw hK
    obtain ⟨hH, hlt⟩ := hg
    obtain ⟨_, vs, es', ep', rv, hd', hm⟩ := fast_of I.hok hH
    rw [hd] at hd'
    cases hd'
    have hl := KV.length rv
    have st0 : s.heap.IsKeyIter it a i vs.length ep := by rw [← hl]; exact st
    obtain ⟨f0, f1, f2, f3, f4, f5⟩ := hf it (by simp)
    refine wpAny_pyNext_dict_item (k := (vs[i]'(by omega)).1) (v := (vs[i]'(by omega)).2) st0 hm (List.getElem?_eq_getElem (by omega)) fun key h' hk st' sb => ?_
    have I1 : Inv X pins σ H { s with heap := h' } := I.turned (t' := s.toks) (fun b o hb e => (sb.2 b hb).trans e) f0 f1 f3 f4 f5
    have ek : kvs[i].1 = (vs[i]'(by omega)).1 := KV.at rv (List.getElem?_eq_getElem hlt) (List.getElem?_eq_getElem (by omega))
    rw [← hl] at st'
    obtain ⟨o, e, c, d⟩ := id st'
    exact ⟨key, rfl, go_of (s := { s with heap := h' }) e c d (by decide) ⟨kV kvs[i].1, H, I1, by rw [ek]; exact rel_key hk, ⟨rfl, kvs[i], List.getElem?_eq_getElem hlt, rfl⟩, st', fun b hb => (hf b hb).1⟩⟩
  done := by
    intro X hP hw hK hc i pins s σ H E I hf st hg
    subst hP hw hK
    obtain ⟨hH, hge⟩ := hg
    obtain ⟨_, vs, es', ep', rv, hd', hm⟩ := fast_of I.hok hH
    rw [hd] at hd'
    cases hd'
    have hl := KV.length rv
    have st0 : s.heap.IsKeyIter it a i vs.length ep := by rw [← hl]; exact st
    obtain ⟨f0, f1, f2, f3, f4, f5⟩ := hf it (by simp)
    exact wpAny_pyNext_dict_end (I.ok.hd hc) st0 hm (List.getElem?_eq_none (by omega)) fun h' eb => ⟨rfl, I.turned (t' := s.toks) (fun b o hb e => eb b o hb e) f0 f1 f3 f4 f5⟩
  self := fun _ _ _ _ _ st h => wpAny_pyIter_keyiter st h
inductive iDict_I (R : (It → Hp → Prop)) (x : V) (H1 : Hp) : Prop
  | mk : ∀ a oa kvs, x = .ref a → H1 a = some (.frz oa (.dK kvs)) → R (Itd a oa kvs) H1 → iDict_I R x H1
noncomputable def iDict (tl : TE) : TI := fun σ H R => tl σ H fun x H1 => iDict_I R x H1
/- for k in d, d held fast -/
theorem pi_dict {X : Cx} {tg l : Expr} {tl : TE} (hl : PE X l tl) : PI X tg l (iDict tl) := by
  intro pins s σ H R I h
  refine thn (hl pins s σ H _ I h) fun v s1 ⟨x, H1, I1, r1, q1⟩ => ?_
  obtain ⟨a, oa, kvs, e, hH, q⟩ := q1
  subst e
  cases r1
  obtain ⟨hlo, vs, es, ep, rv, hd, hm⟩ := fast_of I1.hok hH
  have hl := KV.length rv
  refine wpAny_pyIter_dict hlo hm ?_
  refine ⟨s1.heap.objs.size, [s1.heap.objs.size], _, _, H1, rfl, I1.kept (t' := s1.toks) fun b o e => Heap.get?_push_of_some _ e, turn_dict a _ oa kvs es ep hd, ⟨_, Heap.get?_push_size _ rfl, rfl, by rw [hl]; rfl⟩, fun b hb => ?_, q⟩
  have e : b = s1.heap.objs.size := by simpa using hb
  subst e
  exact I1.fpOk (Nat.le_refl _) (I1.hok.fresh (Nat.le_refl _))
/- [f(k) for k in d if p(k)], p and f changing nothing -/
theorem comp_dictFM {a : Addr} {oa : Obj} {kvs : List (Key × V)} {α : Type} {xs : List α} {fr : List (Nat × Str)} {tt : TT} {te : TE} {σ : St} {H1 : Hp} {Q : VK} (g : α → V) (pr : α → Bool) (f : α → V) (hz : xs.length ≤ sizeLine) (hS : H1 a = some (.frz oa (.dK kvs))) (hk : kvs.map (fun kv => kV kv.1) = xs.map g)
    (htt : ∀ (x : α) (H3 : Hp) (Q' : Bool → Hp → Prop), x ∈ xs → Same H1 H3 → Q' (pr x) H3 → tt (some (g x) :: frV σ fr) H3 Q')
    (hte : ∀ (x : α) (H3 : Hp) (Q' : VK), x ∈ xs → Same H1 H3 → pr x = true → Q' (f x) H3 → te (some (g x) :: frV σ fr) H3 Q')
    (hQ : ∀ D, H1 D = none → Q (.ref D) (upd H1 D (.lst ((xs.filter pr).map f)))) :
    compGoal (Itd a oa kvs) fr tt te σ H1 Q := by
  have hl : kvs.length = xs.length := by have := congrArg List.length hk; simpa using this
  unfold compGoal
  intro D hD
  refine ⟨fun i m ys H2 => m = xs.length - i ∧ i ≤ xs.length ∧ ys = ((xs.take i).filter pr).map f ∧ H2 = upd H1 D (.lst ys), ⟨xs.length, by simp, Nat.zero_le _, by simp, rfl⟩, ?_⟩
  rintro i m ys H2 ⟨rfl, hi, rfl, rfl⟩
  refine ⟨upd_same, ?_⟩
  have s1 : Same H1 (upd H1 D (.lst (((xs.take i).filter pr).map f))) := Same.upd_new hD
  have hS2 := s1 _ _ hS
  by_cases hlt : i < xs.length
  · have hx0 : (xs.map g)[i]? = some (g xs[i]) := by rw [List.getElem?_map, List.getElem?_eq_getElem hlt]; rfl
    refine .inr ⟨⟨hS2, by omega⟩, ?_⟩
    rintro v H3 ⟨rfl, kv, hkv, rfl⟩
    have hx : (xs.map g)[i]? = some (kV kv.1) := by rw [← hk, List.getElem?_map, hkv]; rfl
    rw [hx0] at hx
    have hx := Option.some.inj hx
    rw [← hx]
    have hm : xs[i] ∈ xs := List.getElem_mem hlt
    have et : xs.take (i + 1) = xs.take i ++ [xs[i]] := by rw [List.take_add_one, List.getElem?_eq_getElem hlt]; rfl
    refine htt xs[i] _ _ hm s1 ?_
    cases hp : pr xs[i]
    · refine iteF ⟨xs.length - (i + 1), by omega, rfl, hlt, ?_, rfl⟩
      rw [et, List.filter_append, List.filter_cons, hp]
      simp
    · refine iteT (hte xs[i] _ _ hm s1 hp ⟨upd_same, ?_, xs.length - (i + 1), by omega, rfl, hlt, ?_, upd_upd⟩)
      · have := List.length_filter_le pr (xs.take i)
        rw [List.length_take] at this
        rw [List.length_map]
        omega
      · rw [et, List.filter_append, List.filter_cons, hp, List.map_append]
        simp
  · have e : i = xs.length := by omega
    subst e
    refine .inl ⟨⟨hS2, by omega⟩, ?_⟩
    have := hQ D hD
    rw [List.take_length]
    exact this
end L2
set_option Elab.async false
set_option linter.all false
set_option maxRecDepth 100000
set_option maxHeartbeats 4000000
namespace L2
open PySem PySem.Spec PyProof.Rows
noncomputable def upL (rows : Rows) (n : Str) : List Str := match up rows n with
  | some a => if a = "" then [] else [a]
  | none => []
noncomputable def nbr (rows : Rows) (n : Str) : List Str := reps rows n ++ upL rows n
inductive Rch (rows : Rows) (n : Str) : Str → Prop
  | refl : Rch rows n n
  | step {m k : Str} : Rch rows n m → k ∈ nbr rows m → Rch rows n k
theorem mem_upL {rows : Rows} {n k : Str} : k ∈ upL rows n ↔ up rows n = some k ∧ k ≠ "" := by
  unfold upL
  cases up rows n with
  | none => simp
  | some a =>
    by_cases h : a = ""
    · subst h
      simp
      intro e; exact e.symm
    · simp [h]
      constructor
      · rintro rfl; exact ⟨rfl, h⟩
      · rintro ⟨e, _⟩; exact e.symm
theorem mem_reps {rows : Rows} {t n : Str} (nd : (rows.map (·.1)).Nodup) : n ∈ reps rows t ↔ up rows n = some t := by
  constructor
  · intro h
    obtain ⟨r, hr, e⟩ := List.mem_map.mp h
    obtain ⟨h1, h2⟩ := List.mem_filter.mp hr
    have e2 : r.2 = t := of_decide_eq_true h2
    obtain ⟨a, ea⟩ := up_some (List.mem_map.mpr ⟨r, h1, e⟩)
    have : (n, t) ∈ rows := by rw [← e, ← e2]; exact h1
    rw [ea, one_answer nd (up_mem ea) this]
  · exact in_reps
/- names are no empty texts -/
noncomputable def NoE (rows : Rows) : Prop := ∀ n : Str, n ∈ rows.map (·.1) → n ≠ ""
theorem nbr_sym {rows : Rows} (nd : (rows.map (·.1)).Nodup) {m k : Str} (hm : m ≠ "") (h : k ∈ nbr rows m) : m ∈ nbr rows k := by
  rcases List.mem_append.mp h with h | h
  · exact List.mem_append_right _ (mem_upL.mpr ⟨(mem_reps nd).mp h, hm⟩)
  · exact List.mem_append_left _ ((mem_reps nd).mpr (mem_upL.mp h).1)
theorem nbr_ne {rows : Rows} (ne : NoE rows) {m k : Str} (h : k ∈ nbr rows m) : k ≠ "" := by
  rcases List.mem_append.mp h with h | h
  · exact ne k (reps_sub h)
  · exact (mem_upL.mp h).2
theorem Rch.ne {rows : Rows} (ne : NoE rows) {n k : Str} (hn : n ≠ "") (h : Rch rows n k) : k ≠ "" := by
  cases h with
  | refl => exact hn
  | step _ h => exact nbr_ne ne h
theorem Rch.trans {rows : Rows} {a b c : Str} (h1 : Rch rows a b) (h2 : Rch rows b c) : Rch rows a c := by
  induction h2 with
  | refl => exact h1
  | step _ h ih => exact .step ih h
theorem Rch.symm {rows : Rows} (nd : (rows.map (·.1)).Nodup) (ne : NoE rows) {a b : Str} (ha : a ≠ "") (h : Rch rows a b) : Rch rows b a := by
  induction h with
  | refl => exact .refl
  | step h1 h2 ih => exact (Rch.step .refl (nbr_sym nd (h1.ne ne ha) h2)).trans ih
open Classical in
noncomputable def thrOf (rows : Rows) (n : Str) : List Str := sortS ((rows.map (·.1)).filter fun m => decide (Rch rows n m))
theorem mem_thr {rows : Rows} {n m : Str} : m ∈ thrOf rows n ↔ m ∈ rows.map (·.1) ∧ Rch rows n m := by
  unfold thrOf
  rw [sortS_mem, List.mem_filter]
  simp
theorem thr_of {rows : Rows} (nd : (rows.map (·.1)).Nodup) {n : Str} {l : List Str} (hl : l.Nodup) (h : ∀ m, m ∈ l ↔ m ∈ rows.map (·.1) ∧ Rch rows n m) : sortS l = thrOf rows n := by
  unfold thrOf
  refine sortS_congr ((List.perm_ext_iff_of_nodup hl (nd.filter _)).mpr fun m => ?_)
  rw [h, List.mem_filter]
  simp
theorem thr_same {rows : Rows} (nd : (rows.map (·.1)).Nodup) (ne : NoE rows) {a b : Str} (ha : a ≠ "") (h : Rch rows a b) : thrOf rows b = thrOf rows a := by
  have hb := h.ne ne ha
  have h' := h.symm nd ne ha
  classical
  unfold thrOf
  congr 1
  refine List.filter_congr fun m _ => ?_
  by_cases e : Rch rows a m
  · rw [decide_eq_true (h'.trans e), decide_eq_true e]
  · rw [decide_eq_false (fun z => e (h.trans z)), decide_eq_false e]
/- the threads, as they are come to -/
noncomputable def thrGo (rows : Rows) (acc : List (List Str)) (n : Str) : List (List Str) := if thrOf rows n ∈ acc then acc else acc ++ [thrOf rows n]
noncomputable def thrAll (rows : Rows) (ns : List Str) : List (List Str) := ns.foldl (thrGo rows) []
theorem thrAll_snoc (rows : Rows) (ns : List Str) (n : Str) : thrAll rows (ns ++ [n]) = thrGo rows (thrAll rows ns) n := by
  unfold thrAll
  rw [List.foldl_append]
  rfl
theorem fold_mem {rows : Rows} : ∀ (ns : List Str) (acc : List (List Str)) {t : List Str}, t ∈ ns.foldl (thrGo rows) acc → t ∈ acc ∨ ∃ n ∈ ns, t = thrOf rows n
  | [], acc, t, h => .inl h
  | n :: ns, acc, t, h => by
    rcases fold_mem ns (thrGo rows acc n) h with h | ⟨m, hm, e⟩
    · unfold thrGo at h
      split at h
      · exact .inl h
      · rcases List.mem_append.mp h with h | h
        · exact .inl h
        · exact .inr ⟨n, List.mem_cons_self, List.mem_singleton.mp h⟩
    · exact .inr ⟨m, List.mem_cons_of_mem _ hm, e⟩
theorem thrAll_mem {rows : Rows} (ns : List Str) {t : List Str} (h : t ∈ thrAll rows ns) : ∃ n ∈ ns, t = thrOf rows n := (fold_mem ns [] h).elim (fun z => by cases z) id
theorem fold_len {rows : Rows} : ∀ (ns : List Str) (acc : List (List Str)), (ns.foldl (thrGo rows) acc).length ≤ acc.length + ns.length
  | [], acc => Nat.le_refl _
  | n :: ns, acc => by
    have h := fold_len (rows := rows) ns (thrGo rows acc n)
    have h2 : (thrGo rows acc n).length ≤ acc.length + 1 := by
      unfold thrGo
      split
      · omega
      · rw [List.length_append]; simp
    rw [List.foldl_cons, List.length_cons]
    omega
theorem thrAll_len {rows : Rows} (ns : List Str) : (thrAll rows ns).length ≤ ns.length := by
  have := fold_len (rows := rows) ns []
  unfold thrAll; simpa using this
/- met already just if its thread is told already -/
theorem thr_met {rows : Rows} (nd : (rows.map (·.1)).Nodup) (ne : NoE rows) {ns : List Str} (hns : ∀ m ∈ ns, m ∈ rows.map (·.1)) {n : Str} (hn : n ∈ rows.map (·.1)) : (∃ t ∈ thrAll rows ns, n ∈ t) ↔ thrOf rows n ∈ thrAll rows ns := by
  constructor
  · rintro ⟨t, ht, hnt⟩
    obtain ⟨m, hm, rfl⟩ := thrAll_mem ns ht
    rw [thr_same nd ne (ne m (hns m hm)) (mem_thr.mp hnt).2]
    exact ht
  · intro h
    exact ⟨_, h, mem_thr.mpr ⟨hn, .refl⟩⟩
structure DFS (rows : Rows) (n : Str) (rc wt : List Str) : Prop where
  nd : rc.Nodup
  start : n ∈ rc
  sound : ∀ m ∈ rc, Rch rows n m
  sub : ∀ m ∈ wt, m ∈ rc
  clo : ∀ m ∈ rc, m ∉ wt → ∀ k ∈ nbr rows m, k ∈ rc
noncomputable def univ (rows : Rows) : List Str := rows.map (·.1) ++ rows.map (·.2)
theorem rch_univ {rows : Rows} {n m : Str} (hn : n ∈ rows.map (·.1)) (h : Rch rows n m) : m ∈ univ rows := by
  cases h with
  | refl => exact List.mem_append_left _ hn
  | step _ h =>
    rcases List.mem_append.mp h with h | h
    · exact List.mem_append_left _ (reps_sub h)
    · exact List.mem_append_right _ (List.mem_map.mpr ⟨_, up_mem (mem_upL.mp h).1, rfl⟩)
theorem DFS.len {rows : Rows} {n : Str} {rc wt : List Str} (d : DFS rows n rc wt) (hn : n ∈ rows.map (·.1)) : rc.length ≤ 2 * rows.length := by
  have := nodup_le d.nd fun m hm => rch_univ hn (d.sound m hm)
  unfold univ at this
  rw [List.length_append, List.length_map, List.length_map] at this
  omega
theorem DFS.init {rows : Rows} {n : Str} : DFS rows n [n] [n] :=
  ⟨by simp, by simp, fun m hm => by rw [List.mem_singleton.mp hm]; exact .refl, fun m hm => hm, fun m hm h => absurd hm h⟩
theorem DFS.done {rows : Rows} (nd : (rows.map (·.1)).Nodup) {n : Str} {rc : List Str} (d : DFS rows n rc []) : sortS (rc.filter fun m => decide (m ∈ rows.map (·.1))) = thrOf rows n := by
  have all : ∀ m, Rch rows n m → m ∈ rc := fun m h => by
    induction h with
    | refl => exact d.start
    | step _ h ih => exact d.clo _ ih (by simp) _ h
  refine thr_of nd (d.nd.filter _) fun m => ?_
  rw [List.mem_filter]
  constructor
  · rintro ⟨h1, h2⟩
    exact ⟨of_decide_eq_true h2, d.sound m h1⟩
  · rintro ⟨h1, h2⟩
    exact ⟨all m h2, decide_eq_true h1⟩
/- within a turn: here was taken off, its neighbours ns (the first i of them) have been looked at -/
structure DFSin (rows : Rows) (n here : Str) (seen : List Str) (rc wt : List Str) : Prop where
  nd : rc.Nodup
  start : n ∈ rc
  hr : here ∈ rc
  sound : ∀ m ∈ rc, Rch rows n m
  sub : ∀ m ∈ wt, m ∈ rc
  clo : ∀ m ∈ rc, m ∉ wt → m ≠ here → ∀ k ∈ nbr rows m, k ∈ rc
  got : ∀ k ∈ seen, k ∈ rc
theorem DFS.pop {rows : Rows} {n here : Str} {rc wt : List Str} (d : DFS rows n rc (wt ++ [here])) : DFSin rows n here [] rc wt :=
  ⟨d.nd, d.start, d.sub here (by simp), d.sound, fun m hm => d.sub m (List.mem_append_left _ hm), fun m hm h1 h2 => d.clo m hm fun z => (List.mem_append.mp z).elim h1 fun y => h2 (List.mem_singleton.mp y), fun k hk => by cases hk⟩
theorem DFSin.old {rows : Rows} {n here k : Str} {seen rc wt : List Str} (d : DFSin rows n here seen rc wt) (hk : k ∈ rc) : DFSin rows n here (seen ++ [k]) rc wt :=
  ⟨d.nd, d.start, d.hr, d.sound, d.sub, d.clo, fun m hm => (List.mem_append.mp hm).elim (d.got m) fun y => by rw [List.mem_singleton.mp y]; exact hk⟩
theorem DFSin.new {rows : Rows} {n here k : Str} {seen rc wt : List Str} (d : DFSin rows n here seen rc wt) (hk : ¬ k ∈ rc) (hn : k ∈ nbr rows here) : DFSin rows n here (seen ++ [k]) (rc ++ [k]) (wt ++ [k]) := by
  refine ⟨List.nodup_append.mpr ⟨d.nd, by simp, fun x hx y hy e => hk ?_⟩, List.mem_append_left _ d.start, List.mem_append_left _ d.hr, fun m hm => ?_, fun m hm => ?_, fun m hm h1 h2 => ?_, fun m hm => ?_⟩
  · rw [List.mem_singleton.mp hy] at e; rw [← e]; exact hx
  · rcases List.mem_append.mp hm with z | z
    · exact d.sound m z
    · rw [List.mem_singleton.mp z]; exact .step (d.sound here d.hr) hn
  · rcases List.mem_append.mp hm with z | z
    · exact List.mem_append_left _ (d.sub m z)
    · exact List.mem_append_right _ z
  · rcases List.mem_append.mp hm with z | z
    · intro k' hk'
      exact List.mem_append_left _ (d.clo m z (fun y => h1 (List.mem_append_left _ y)) h2 k' hk')
    · exact absurd (List.mem_append_right _ z) h1
  · rcases List.mem_append.mp hm with z | z
    · exact List.mem_append_left _ (d.got m z)
    · exact List.mem_append_right _ z
theorem DFSin.out {rows : Rows} {n here : Str} {rc wt : List Str} (d : DFSin rows n here (nbr rows here) rc wt) : DFS rows n rc wt :=
  ⟨d.nd, d.start, d.sound, d.sub, fun m hm h1 => by
    by_cases e : m = here
    · subst e; exact d.got
    · exact d.clo m hm h1 e⟩
end L2
set_option Elab.async false
set_option linter.all false
set_option maxRecDepth 100000
set_option maxHeartbeats 4000000
namespace L2
open PySem PySem.Spec PyProof.Rows
theorem pe_fldK {X : Cx} (K : PySem.W.Frag) {e : Expr} {f : Str} {pos : Pos} {ta : TE} (he : PE X e ta) (hb : attributeBase e f X.env (eval e X.env) = eval e X.env) (hK : X.K = K := by rfl) : PE X (.Attribute e f pos) (tFld K ta f) := hK ▸ pe_fld he hb
section
variable {prs S : List PRow} {n : Str} {k : Nat}
end
theorem put_keys_old {ns : List Str} {n : Str} (h : n ∈ ns) : putK (keysT ns) (Sum.inr n) (.bl true) = keysT ns := by
  unfold putK
  have hc : ((keysT ns).any fun kv => decide (kv.1 = (Sum.inr n : Key))) = true := List.any_eq_true.mpr ⟨(Sum.inr n, .bl true), List.mem_map.mpr ⟨n, h, rfl⟩, decide_eq_true rfl⟩
  rw [if_pos hc]
  unfold keysT
  rw [List.map_map]
  apply List.map_congr_left
  intro m _
  show (if (Sum.inr m : Key) = Sum.inr n then (Sum.inr m, V.bl true) else (Sum.inr m, V.bl true)) = _
  split <;> rfl
/- names that were met, one more -/
noncomputable def addN (ns : List Str) (n : Str) : List Str := if n ∈ ns then ns else ns ++ [n]
theorem put_add (ns : List Str) (n : Str) : putK (keysT ns) (Sum.inr n) (.bl true) = keysT (addN ns n) := by
  unfold addN
  split
  · exact put_keys_old ‹_›
  · exact put_keys ‹_›
theorem mem_add {ns : List Str} {n m : Str} : m ∈ addN ns n ↔ m ∈ ns ∨ m = n := by
  unfold addN
  split
  · exact ⟨.inl, fun h => h.elim id fun e => e ▸ ‹_›⟩
  · rw [List.mem_append, List.mem_singleton]
theorem add_nd {ns : List Str} {n : Str} (h : ns.Nodup) : (addN ns n).Nodup := by
  unfold addN
  split
  · exact h
  · rename_i hn
    rw [List.nodup_append]
    exact ⟨h, List.pairwise_singleton _ _, fun a ha b hb e => hn (by rw [List.mem_singleton.mp hb] at e; rw [← e]; exact ha)⟩
end L2
set_option Elab.async false
set_option linter.all false
namespace L2
open PySem PySem.Spec
section
variable {X : Cx} {pins : List (Addr × Obj)} {σ : St} {H : Hp} {s : Shared} {a : Addr} {kvs : List (Key × V)} {k : Key} {z : V} {u r : Value} {A : Around} {E : Value → Shared → Prop}
end
section
variable {X : Cx} {o e f : Expr} {apos cpos : Pos} {td ty tx : TE}
end
end L2
set_option Elab.async false
set_option linter.all false
set_option maxRecDepth 100000
set_option maxHeartbeats 4000000
namespace L2
open PySem PySem.Spec PyProof.Rows
noncomputable def keyT : Value → Str
  | .str x _ => x
  | _ => ""
noncomputable def SetT (prog : Program) (w : World) (led : Bool) (a : Addr) (ks : List Str) (h : Heap) : Prop := ∃ o es ep t, h.get? a = some o ∧ o.ExactSet ∧ o.data = .set es ep t ∧ ElemsOf (strKind prog w) es.toList ∧ es.size < scanBound ∧ t.fits es.size = true ∧ t.led = led ∧
  (t.plain = true → es.size = 0) ∧ (es.toList.map fun e => keyT e.2).Perm ks
theorem SetT.at {prog : Program} {w : World} {led : Bool} {a : Addr} {ks : List Str} {h h' : Heap} (x : SetT prog w led a ks h) (k : ∀ o, h.get? a = some o → h'.get? a = some o) : SetT prog w led a ks h' :=
  let ⟨o, es, ep, t, e, r⟩ := x; ⟨o, es, ep, t, k o e, r⟩
theorem elem_str {prog : Program} {w : World} {l : List (Int × Value)} (h : ElemsOf (strKind prog w) l) {e : Int × Value} (he : e ∈ l) : ∃ t, e.2 = .str (keyT e.2) t := by
  obtain ⟨⟨k, hk, _⟩, _⟩ := h e he
  obtain ⟨t, q⟩ := Value.isStrOf_shape (show Value.isStrOf k e.2 = true from hk)
  exact ⟨t, by rw [q]; rfl⟩
theorem is_key {k : Str} {v : Value} {t : Tok} (h : v = .str (keyT v) t) : Value.isStrOf k v = decide (k = keyT v) := by
  rw [h]
  show Value.isStrOf k (.str (keyT v) t) = decide (k = keyT v)
  by_cases e : k = keyT v
  · rw [← e, decide_eq_true rfl]; simp [Value.isStrOf]
  · rw [decide_eq_false e]; simp [Value.isStrOf]; exact fun z => e z.symm
theorem layNew_led (t : SetTable) (es : Array (Int × Value)) (h : Int) (x : Value) : (layNew t es h x).2.1.led = t.led := by
  unfold layNew
  split
  · show (SetTable.orStandIn _ _).led = _
    unfold SetTable.orStandIn
    split <;> rfl
  · rfl
theorem relayAll_led (t : SetTable) (es : Array (Int × Value)) (wanted : Nat) : (relayAll t es wanted).2.1.led = t.led ∧ ((relayAll t es wanted).2.1.plain = true → t.plain = true) := by
  unfold relayAll
  split
  · rename_i t' order he
    have e : t'.led = t.led ∧ t'.plain = t.plain := by
      unfold SetTable.relaid SetTable.laid at he
      cases hc : SetTable.layClean (SetTable.sizeAbove wanted - 1) (es.map (·.1)) with
      | none => rw [hc] at he; cases he
      | some ow => rw [hc] at he; cases he; exact ⟨rfl, rfl⟩
    dsimp only
    split
    · exact ⟨e.1, fun z => by rw [← e.2]; exact z⟩
    · exact ⟨rfl, fun z => by cases z⟩
  · exact ⟨rfl, fun z => by cases z⟩
section
variable {prog : Program} {w : World} {A : Around} {E : Value → Shared → Prop} {s : Shared}
/- what is stored -/
theorem setT_store {h : Heap} {a : Addr} {o : Obj} {es : Array (Int × Value)} {ep : Nat} {t : SetTable} {led : Bool} {ks : List Str} (ho : h.get? a = some o) (hex : o.ExactSet) (hd : o.data = .set es ep t) {es' : Array (Int × Value)} {t' : SetTable}
    (hel : ElemsOf (strKind prog w) es'.toList) (hb : es'.size < scanBound) (hf : t'.fits es'.size = true) (hl : t'.led = led) (hp : t'.plain = true → es'.size = 0) (hk : (es'.toList.map fun e => keyT e.2).Perm ks) :
    (h.update a (Obj.putSet es' t')).get? a = some { o with data := .set es' (ep + 1) t' } ∧ SetT prog w led a ks (h.update a (Obj.putSet es' t')) := by
  have hg : (h.update a (Obj.putSet es' t')).get? a = some { o with data := .set es' (ep + 1) t' } := by
    have e1 := putSet_of es' t' hd
    have e2 := Heap.get?_update_self (Obj.putSet es' t') ho (by rw [e1]; rfl)
    rw [e1] at e2
    exact e2
  exact ⟨hg, _, es', ep + 1, t', hg, hex, rfl, hel, hb, hf, hl, hp, hk⟩
theorem tail_T {g : Bool → Sem Unit} (hg : ∀ (b : Bool) (z : Shared) (R : Unit → Shared → Prop), R () z → wpAny (model prog w) A (g b) R E z) {a : Addr} {o : Obj} {es : Array (Int × Value)} {ep : Nat} {t : SetTable} {led : Bool} {ks : List Str}
    (ho : s.heap.get? a = some o) (hex : o.ExactSet) (hd : o.data = .set es ep t) {es1 : Array (Int × Value)} {t2 : SetTable} (hel : ElemsOf (strKind prog w) es1.toList) (hb : es1.size < scanBound) (hf : t2.fits es1.size = true) (hl : t2.led = led) (hp : t2.plain = false)
    (hk : (es1.toList.map fun e => keyT e.2).Perm ks) {was : Bool} {R : Option Bool → Shared → Prop} (h : ∀ h', Heap.SameBut a s.heap h' → SetT prog w led a ks h' → R (some true) { s with heap := h' }) :
    wpAny (model prog w) A (do
        storeSet a es1 t2
        if (!was && t2.tooFull) = true then do
            g (relayAll t2 es1 (SetTable.grown es1.size)).2.2
            storeSet a (relayAll t2 es1 (SetTable.grown es1.size)).1 (relayAll t2 es1 (SetTable.grown es1.size)).2.1
            pure (some true)
          else pure (some true)) R E s := by
  refine wpAny_bind (wpAny_storeSet_of ho hd ?_ (fits_of_scanBound hb))
  obtain ⟨g1, S1⟩ := setT_store (prog := prog) (w := w) ho hex hd hel hb hf hl (fun z => by rw [hp] at z; cases z) hk
  have b1 := Heap.SameBut.update s.heap a (Obj.putSet es1 t2)
  split
  · have pm := relayAll_perm t2 es1 (SetTable.grown es1.size)
    have ft := relayAll_fits t2 es1 (SetTable.grown es1.size)
    have ld := relayAll_led t2 es1 (SetTable.grown es1.size)
    generalize relayAll t2 es1 (SetTable.grown es1.size) = Z at pm ft ld ⊢
    obtain ⟨es2, t3, gv⟩ := Z
    dsimp only at pm ft ld ⊢
    have z2 : es2.size = es1.size := by rw [← Array.length_toList, pm.length_eq, Array.length_toList]
    refine wpAny_bind (hg _ _ _ (wpAny_bind (wpAny_storeSet_of g1 rfl ?_ (fits_of_scanBound (by rw [z2]; exact hb)))))
    obtain ⟨_, S2⟩ := setT_store (prog := prog) (w := w) (led := led) (ks := ks) g1 hex rfl (hel.perm pm) (by rw [z2]; exact hb) ft (ld.1.trans hl) (fun z => by have := ld.2 z; rw [hp] at this; cases this) ((pm.map _).trans hk)
    exact wpAny_pure (h _ (b1.trans (Heap.SameBut.update _ a _)) S2)
  · exact wpAny_pure (h _ b1 S1)
theorem setAdd_T {a : Addr} {ks : List Str} {k : Str} {u : Tok} {led : Bool} {Q : Bool → Shared → Prop} (hS : SetT prog w led a ks s.heap) (hroom : ks.length + 1 < scanBound)
    (h : ∀ (b : Bool) (h' : Heap), Heap.SameBut a s.heap h' → SetT prog w led a (addN ks k) h' → Q b { s with heap := h' }) : wpAny (model prog w) A (setAddHashed a (.str k u) (hashStr w k)) Q E s := by
  obtain ⟨o, es, ep, t, ho, hex, hd, hel, hb, hf, hled, hpl, hpm⟩ := hS
  have hkey : (strKind prog w).is k (.str k u) = true := by show Value.isStrOf k (.str k u) = true; simp [Value.isStrOf]
  have hsc : (Value.str k u).scannable = true := rfl
  have hlen : es.size = ks.length := by rw [← hpm.length_eq, List.length_map, Array.length_toList]
  unfold setAddHashed setAddHashedIn
  refine wpAny_holding (wpAny_bind (wpAny_setState_of ho hd hf ?_))
  dsimp only
  rw [byScan_of hsc hb hel]
  simp only [↓reduceIte]
  unfold setAddByScan
  refine wpAny_bind (wpAny_bind (wpAny_rule (wpAny_bind (wpAny_setScan_of (knd := strKind prog w) hkey ho hd hf hel ?_))))
  cases hr : List.findIdx? (fun e => (strKind prog w).is k e.2) es.toList with
  | some j =>
    dsimp only
    obtain ⟨hj, hpj, _⟩ := List.findIdx?_eq_some_iff_getElem.mp hr
    have hm := List.getElem_mem hj
    obtain ⟨tj, ej⟩ := elem_str hel hm
    have hin : k ∈ ks := hpm.mem_iff.mp (List.mem_map.mpr ⟨_, hm, by
      have e1 : Value.isStrOf k es.toList[j].2 = true := hpj
      rw [is_key ej] at e1
      exact (of_decide_eq_true e1).symm⟩)
    refine wpAny_pure (wpAny_pure ?_)
    have e : s = { s with heap := s.heap } := by cases s; rfl
    rw [e]
    exact h false s.heap (Heap.SameBut.refl a s.heap) ⟨o, es, ep, t, ho, hex, hd, hel, hb, hf, hled, hpl, by unfold addN; rw [if_pos hin]; exact hpm⟩
  | none =>
    dsimp only
    have hnin : ¬ k ∈ ks := fun z => by
      obtain ⟨e, he, hk⟩ := List.mem_map.mp (hpm.mem_iff.mpr z)
      obtain ⟨te, ee⟩ := elem_str hel he
      have h1 := List.findIdx?_eq_none_iff.mp hr e he
      have h2 : Value.isStrOf k e.2 = false := h1
      rw [is_key ee, hk, decide_eq_true rfl] at h2
      cases h2
    have hperm := layNew_perm t es (hashStr w k) (.str k u)
    have hfits := layNew_fits t es (hashStr w k) (.str k u)
    have hld := layNew_led t es (hashStr w k) (.str k u)
    have hnk : (addN ks k) = ks ++ [k] := by unfold addN; rw [if_neg hnin]
    generalize layNew t es (hashStr w k) (.str k u) = Z at hperm hfits hld ⊢
    obtain ⟨es1, t1, was, gave⟩ := Z
    dsimp only at hperm hfits hld ⊢
    rw [Array.toList_push] at hperm
    have hel1 : ElemsOf (strKind prog w) es1.toList := (hel.push (k := k) hkey hsc).perm hperm
    have z1 : es1.size = es.size + 1 := by rw [← Array.length_toList, hperm.length_eq, List.length_append, Array.length_toList]; rfl
    have hb1 : es1.size < scanBound := by rw [z1, hlen]; exact hroom
    have hk1 : (es1.toList.map fun e => keyT e.2).Perm (addN ks k) := by
      rw [hnk]
      refine (hperm.map _).trans ?_
      rw [List.map_append]
      exact hpm.append_right _
    have gw : ∀ (b : Bool) (z : Shared) (R : Unit → Shared → Prop), R () z → wpAny (model prog w) A (match b with | true => rule "set.scan.the-table-gave-way" | false => pure ()) R E z := fun b z R q => by cases b <;> first | exact wpAny_pure q | exact wpAny_rule q
    refine wpAny_bind (gw _ _ _ ?_)
    split
    · refine wpAny_bind ?_
      rw [hashByValue_scannable 8 hsc]
      refine wpAny_pure ?_
      refine tail_T (led := led) (ks := addN ks k) ?_ ho hex hd hel1 hb1 ?_ ?_ ?_ hk1 ?_
      · intro b z R q; cases b <;> first | exact wpAny_pure q | exact wpAny_rule q
      · exact SetTable.fits_plain_off hfits
      · exact hld.trans hled
      · rfl
      · intro h' hsb hS'; dsimp only; exact wpAny_pure (h true h' hsb hS')
    · rename_i hnp
      refine wpAny_bind (wpAny_pure ?_)
      simp only [↓reduceIte]
      refine tail_T (led := led) (ks := addN ks k) ?_ ho hex hd hel1 hb1 hfits ?_ ?_ hk1 ?_
      · intro b z R q; cases b <;> first | exact wpAny_pure q | exact wpAny_rule q
      · exact hld.trans hled
      · exact Bool.eq_false_iff.mpr hnp
      · intro h' hsb hS'; dsimp only; exact wpAny_pure (h true h' hsb hS')
/- the texts met, each once -/
noncomputable def metT (val : Nat → Str) (i : Nat) : List Str := ((List.range i).map val).foldl addN []
theorem metT_succ (val : Nat → Str) (i : Nat) : metT val (i + 1) = addN (metT val i) (val i) := by
  unfold metT
  rw [List.range_succ, List.map_append, List.foldl_append]
  rfl
theorem metT_len (val : Nat → Str) : ∀ i, (metT val i).length ≤ i
  | 0 => Nat.le_refl _
  | i + 1 => by
    rw [metT_succ]
    have ih := metT_len val i
    unfold addN
    split
    · omega
    · rw [List.length_append, List.length_singleton]; omega
theorem set_loop_T {led : Bool} {R : Result → Shared → Prop} {I : Addr} {fp wr : List Addr} {G : Array GenState → Array GenState → Prop} {n : Nat} {P : Nat → Value → Prop} {St : Nat → Shared → Prop} (W : WalksS prog w A.in1 I fp wr G n P St) (S : Addr) (nf : S ∉ fp)
    (val : Nat → Str) (hval : ∀ i v, P i v → ∃ t, v = .str (val i) t) (hb : n + 1 < scanBound) : ∀ (k i : Nat) (s : Shared), n - i = k → i ≤ n → St i s → SetT prog w led S (metT val i) s.heap →
      (∀ s', Moved (S :: wr) G s s' → SetT prog w led S (metT val n) s'.heap → R (.ok (.ret .none)) s') → codeAny (model prog w) A (.builtin "set.update.loop" ⟨[.ref S, .ref I], []⟩) R s := by
  have nw : S ∉ wr := fun h => nf (W.sub _ h)
  have sub : ∀ b ∈ wr, b ∈ S :: wr := fun b hb => List.mem_cons_of_mem _ hb
  intro k
  induction k with
  | zero =>
    intro i s hk hi hst hS hR
    obtain rfl : i = n := by omega
    refine codeAny_builtin F.entry_set_update_loop ?_
    rw [Around.under_plainId F.plain_set_update_loop _]
    refine wpAny_bind (m := pyNext (.ref I)) (W.done s _ _ hst fun s' mv => ?_)
    exact wpAny_pure (hR s' (mv.mono sub) (hS.at fun o e => mv.heap S o nw e))
  | succ k ih =>
    intro i s hk hi hst hS hR
    have lt : i < n := by omega
    refine codeAny_builtin F.entry_set_update_loop ?_
    rw [Around.under_plainId F.plain_set_update_loop _]
    refine wpAny_bind (m := pyNext (.ref I)) (W.item i s _ _ lt hst fun v s' hP hst' mv => ?_)
    obtain ⟨t, rfl⟩ := hval i v hP
    have hS' := hS.at (h' := s'.heap) fun o e => mv.heap S o nw e
    refine wpAny_bind (m := holding [Value.str (val i) t] (setAdd S (.str (val i) t))) (wpAny_holding ?_)
    unfold setAdd
    refine wpAny_holding (wpAny_bind ((strKind prog w).pyHash (k := val i) (show Value.isStrOf (val i) (.str (val i) t) = true by simp [Value.isStrOf]) ?_))
    have room : (metT val i).length + 1 < scanBound := by have := metT_len val i; omega
    refine setAdd_T (s := { s' with toks := s'.toks + 1 }) (led := led) hS' room fun b h' sb hS2 => ?_
    rw [← metT_succ] at hS2
    refine wpAny_pure ⟨plainId_quiet F.plain_set_update_loop _, ih (i + 1) _ (by omega) lt (W.frame _ s' _ _ hst' (Nat.le_succ _) fun b hb o e => ?_) hS2 fun s'' mv' hS'' => ?_⟩
    · rw [sb.2 b (fun h : b = S => nf (by rw [← h]; exact hb))]; exact e
    · refine hR s'' (Moved.trans W.gtrans ((mv.mono sub).then_heap (Nat.le_succ _) fun b o hb e => ?_) mv') hS''
      rw [sb.2 b (fun h : b = S => hb (by rw [h]; exact List.mem_cons_self))]; exact e
noncomputable def setNew (w : World) : Obj := { cls := .type "set", dict := none, data := .set #[] 0 (.fresh 0 0 (!w.params.followText "set-order")) }
theorem new_set_T (v : Value) {R : Value → Shared → Prop} (h : R (.ref s.heap.objs.size) { s with heap := s.heap.push (setNew w) }) : codeAny (model prog w) A (.call (.builtin "set.__new__") ⟨[.type "set", v], []⟩) (wants R E) s := by
  refine codeAny_of_tree ?_
  refine wpAny_bind (m := checkBuiltinCall "set.__new__" ⟨[.type "set", v], []⟩) (wpAny_of_eq (F.newCall_set_1 v) (wpAny_pure ⟨plainId_quiet F.plain_set_new _, codeAny_builtin F.entry_set_new ?_⟩))
  rw [Around.under_plainId F.plain_set_new _]
  unfold Builtin.«set.__new__» Builtin.Frozenset.newClass
  have sub := sub_set_self
  obtain ⟨hp, g, d, tk, os⟩ := s
  dsimp only
  wp_walk
  refine wpAny_askSetting (wpAny_pure ?_)
  dsimp only
  simp only [newObj]
  exact wpAny_bind (wpAny_alloc (wpAny_pure (wpAny_pure h)))
theorem strs_at {vs : List Value} {ss : List Str} (h : StrsAre vs ss) : ∀ (i : Nat) (v : Value), vs[i]? = some v → ∃ t, v = .str (ss.getD i "") t := by
  induction h with
  | nil => intro i v h; simp at h
  | cons x t r ih =>
    intro i v h
    cases i with
    | zero => simp at h; exact ⟨t, by rw [← h]; rfl⟩
    | succ i =>
      rw [List.getElem?_cons_succ] at h
      obtain ⟨t', e⟩ := ih i v h
      exact ⟨t', by rw [e]; rfl⟩
theorem strs_len : ∀ {vs : List Value} {ss : List Str}, StrsAre vs ss → vs.length = ss.length
  | _, _, .nil => rfl
  | _, _, .cons x t r => by rw [List.length_cons, List.length_cons, strs_len r]
theorem range_getD (ss : List Str) : (List.range ss.length).map (fun i => ss.getD i "") = ss := by
  apply List.ext_getElem
  · rw [List.length_map, List.length_range]
  · intro i h1 h2
    rw [List.getElem_map, List.getElem_range, List.getD_eq_getElem?_getD, List.getElem?_eq_getElem h2]
    rfl
theorem new_T : SetT prog w (!w.params.followText "set-order") s.heap.objs.size [] (s.heap.push (setNew w)) :=
  ⟨_, #[], 0, _, Heap.get?_push_size _ rfl, ⟨rfl, rfl, rfl⟩, rfl, (fun e he => by simp at he), by decide, by rfl, rfl, (fun _ => rfl), by simp⟩
end
end L2
set_option Elab.async false
set_option linter.all false
set_option maxRecDepth 100000
set_option maxHeartbeats 4000000
namespace L2
open PySem PySem.Spec PyProof.Rows
section
variable {prog : Program} {w : World} {A : Around} {E : Value → Shared → Prop} {s : Shared}
set_option maxHeartbeats 3200000 in
theorem call_set_T {l : Addr} {items : Array Value} {ss : List Str} {Q : Value → Shared → Prop} (hh : A.handled = none) (hl : s.heap.IsList l items) (hi : StrsAre items.toList ss) (hb : items.size + 1 < scanBound)
    (h : ∀ (h' : Heap) (tk : Nat), SetT prog w (!w.params.followText "set-order") s.heap.objs.size (ss.foldl addN []) h' → (∀ b o, b < s.heap.objs.size → s.heap.get? b = some o → h'.get? b = some o) → Q (.ref s.heap.objs.size) { s with heap := h', toks := tk }) :
    wpAny (model prog w) A (call (.type "set") [.ref l]) Q E s := by
  obtain ⟨c, tl, m1⟩ := F.called_set.mro
  have m2 := F.called_set.made
  have m3 := F.called_set.sub
  have m4 := F.called_set.notType
  have m5 := F.called_set.canCreate
  have m6 := F.typeCall_set_1 (.ref l)
  refine wpAny_call (codeAny_of_tree ?_)
  show wpAny _ _ (callAny (.type "set") _) _ _ _
  refine wpAny_pure ⟨Code.quiet_builtin _ (by decide +kernel), codeAny_builtin F.entry_type_call ?_⟩
  rw [Around.under_plain (weight_type_call_type "set" [.ref l] []) rfl]
  repeat (any_goals (first | assumption | wp_step))
  refine codeAny_mono (new_set_T (.ref l) (E := E) (R := fun z z1 => z = .ref s.heap.objs.size ∧ z1 = { s with heap := s.heap.push (setNew w) }) ⟨rfl, rfl⟩) fun r s₁ hr => ?_
  cases r with
  | error e => exact hr
  | ok fl =>
    cases fl with
    | ret z =>
      obtain ⟨rfl, rfl⟩ := hr
      have z1 : (s.heap.push (setNew w)).get? s.heap.objs.size = some (setNew w) := Heap.get?_push_size _ rfl
      have z2 : Shared.TypeIs { s with heap := s.heap.push (setNew w) } (.ref s.heap.objs.size) "set" := ⟨_, z1, rfl⟩
      have z3 := F.called_set.init.lookup
      have z4 := F.called_set.init.bind (.ref s.heap.objs.size)
      repeat (any_goals (first | assumption | wp_step))
      refine codeAny_mono (codeAny_call_builtin (R := wants (fun r s₂ => r = .none ∧ ∃ h' tk, s₂ = { s with heap := h', toks := tk } ∧ SetT prog w (!w.params.followText "set-order") s.heap.objs.size (ss.foldl addN []) h' ∧
          (∀ b o, b < s.heap.objs.size → s.heap.get? b = some o → h'.get? b = some o)) E) F.called_set.init.plain F.entry_set_init (check_set_init_1 z2 ?_)) fun r₂ s₂ hr₂ => ?_
      · obtain ⟨ol, e1, e2, nl, e3⟩ := hl
        obtain ⟨ocls, odict, odata, oslots⟩ := ol
        simp only at e2 e3
        subst e2; subst e3
        have y1 : (s.heap.push (setNew w)).get? l = some { cls := .type "list", dict := odict, data := .seq items nl, slots := oslots } := Heap.get?_push_of_some _ e1
        have y2 := F.sub_list_set
        have y3 := F.sub_list_frozenset
        have y4 : (Value.type "list" == Value.type "dict") = false := by decide
        have y5 : (s.heap.push (setNew w)).IsList l items := ⟨_, y1, rfl, nl, rfl⟩
        unfold Builtin.«set.__init__» noKeywords Builtin.Frozenset.updateFrom
        generalize hPI : pyIter = PI
        unfold setNew at z1 z2 y1 y5 ⊢
        wp_walk
        subst hPI
        refine wpAny_pyIter_list y5 ?_
        refine wpAny_bind (wpAny_runValue ?_)
        have lt : l < s.heap.objs.size := Heap.lt_size e1
        have q3 : A.in1.in1.in1.handled = none := by simp [hh]
        have ne : l ≠ (s.heap.push { cls := .type "set", dict := none, data := .set #[] 0 (.fresh 0 0 (!w.params.followText "set-order")) }).objs.size := by
          rw [Heap.size_push]; exact Nat.ne_of_lt (Nat.lt_succ_of_lt lt)
        have nf : s.heap.objs.size ∉ [(s.heap.push { cls := .type "set", dict := none, data := .set #[] 0 (.fresh 0 0 (!w.params.followText "set-order")) }).objs.size, l] := by
          rw [Heap.size_push]
          intro z
          rcases List.mem_cons.mp z with z | z
          · omega
          · rw [List.mem_singleton.mp z] at lt
            exact Nat.lt_irrefl _ lt
        have vl : ∀ (i : Nat) (v : Value), items[i]? = some v → ∃ t, v = .str ((fun i => ss.getD i "") i) t := fun i v e => strs_at hi i v (by rw [Array.getElem?_toList]; exact e)
        have es : metT (fun i => ss.getD i "") items.size = ss.foldl addN [] := by
          unfold metT
          rw [← Array.length_toList, strs_len hi, range_getD]
        refine set_loop_T (led := !w.params.followText "set-order") ((Walks.list q3 _ l ne items).toS) s.heap.objs.size nf (fun i => ss.getD i "") vl hb (items.size - 0) 0 _ (by omega) (Nat.zero_le _) ⟨⟨_, Heap.get?_push_size _ rfl, rfl, rfl⟩, y5.push _⟩ ?S0 ?R0
        case S0 => exact (new_T (prog := prog) (w := w) (s := s)).at fun o e => Heap.get?_push_of_some _ e
        case R0 =>
          intro s' hm hS'
          obtain ⟨h', g', d', tk', os'⟩ := s'
          have eg : g' = s.gens := hm.gens
          have ed : d' = s.drawn := hm.drawn
          have eo : os' = s.os := hm.os
          subst eg; subst ed; subst eo
          rw [es] at hS'
          refine wpAny_pure (wpAny_pure ⟨rfl, h', tk', rfl, hS', fun b o hb e => ?_⟩)
          refine hm.heap b o (fun z => ?_) (Heap.get?_push_of_some _ (Heap.get?_push_of_some _ e))
          rcases List.mem_cons.mp z with z | z
          · exact absurd z (Nat.ne_of_lt hb)
          · have z := List.mem_singleton.mp z
            rw [Heap.size_push] at z
            exact absurd z (Nat.ne_of_lt (Nat.lt_succ_of_lt hb))
      · cases r₂ with
        | error e => exact hr₂
        | ok fl₂ =>
          cases fl₂ with
          | ret r =>
            obtain ⟨rfl, h', tk, rfl, a1, a2⟩ := hr₂
            repeat (any_goals (first | assumption | wp_step))
            exact h _ _ a1 a2
          | _ => exact hr₂.elim
    | _ => exact hr.elim
end
end L2
set_option Elab.async false
set_option linter.all false
set_option maxRecDepth 100000
set_option maxHeartbeats 4000000
namespace L2
open PySem PySem.Spec PyProof.Rows
theorem erase_perm {α : Type} : ∀ (l : List α) (i : Nat) (h : i < l.length), (l[i] :: l.eraseIdx i).Perm l
  | x :: l, 0, _ => .refl _
  | x :: l, i + 1, h => by
    show (l[i]'(Nat.lt_of_succ_lt_succ h) :: x :: l.eraseIdx i).Perm (x :: l)
    exact (List.Perm.swap x _ _).trans ((erase_perm l i (Nat.lt_of_succ_lt_succ h)).cons x)
theorem pick_go {α : Type} (next : Nat → Nat) : ∀ (fuel k : Nat) (left : List α) (out : Array α), left.length = fuel → (pickOrder.go next fuel k left out).toList.Perm (out.toList ++ left)
  | 0, k, left, out, h => by
    obtain rfl : left = [] := List.length_eq_zero_iff.mp h
    rw [List.append_nil]
    exact .refl _
  | n + 1, k, left, out, h => by
    have hi : next k % left.length < left.length := Nat.mod_lt _ (by omega)
    unfold pickOrder.go
    rw [List.getElem?_eq_getElem hi]
    dsimp only
    refine (pick_go next n (k + 1) _ _ (by rw [List.length_eraseIdx_of_lt hi, h]; rfl)).trans ?_
    rw [Array.toList_push, List.append_assoc]
    exact (erase_perm left _ hi).append_left _
theorem pick_perm {α : Type} (next : Nat → Nat) (xs : Array α) : (pickOrder next xs).toList.Perm xs.toList := by
  have := pick_go next xs.size 0 xs.toList #[] (by simp)
  exact this
theorem slot_sit_next : Slot "set_iterator" "__next__" "set_iterator.__next__" := .of (owner := "set_iterator") (n := "__next__") (by rw [typeLookup_type, builtinLookup_eq_fast]; kernel_rfl) (by decide +kernel) (by decide +kernel) (by decide +kernel) (by first | exact .inl (by decide +kernel) | exact .inr (by decide +kernel)) (by rw [isSubtype_type]; kernel_rfl)
theorem entry_sit_next : entryFor table "set_iterator.__next__" = some Builtin.«set_iterator.__next__» := entryFor_of_tree (by kernel_rfl)
theorem args_sit_next (a : Value) : argsOk "set_iterator.__next__" ⟨[a], []⟩ := by unfold argsOk; kernel_rfl
theorem entry_set_iter : entryFor table "set.__iter__" = some Builtin.«frozenset.__iter__» := entryFor_alias (id' := "frozenset.__iter__") (by kernel_rfl) rfl (by decide +kernel) (by kernel_rfl)
theorem slot_sit_iter : Slot "set_iterator" "__iter__" "set_iterator.__iter__" := .of (owner := "set_iterator") (n := "__iter__") (by rw [typeLookup_type, builtinLookup_eq_fast]; kernel_rfl) (by decide +kernel) (by decide +kernel) (by decide +kernel) (by first | exact .inl (by decide +kernel) | exact .inr (by decide +kernel)) (by rw [isSubtype_type]; kernel_rfl)
theorem wpAny_choose {M : Model} {A : Around} {E : Value → Shared → Prop} {s : Shared} {src : Source} {n : Nat} {Q : Nat → Shared → Prop} (hn : n ≠ 0) (h : ∀ i d', i < n → Q i { s with drawn := d' }) : wpAny M A (choose src n) Q E s :=
  fun _ _ _ => ⟨hn, h _ _ (Nat.mod_lt _ (Nat.pos_of_ne_zero hn))⟩
theorem wpAny_drawOrder {M : Model} {A : Around} {E : Value → Shared → Prop} {α : Type} : ∀ (n : Nat) (xs : List α) (s : Shared) (Q : List α → Shared → Prop), xs.length = n → (∀ ys d', ys.Perm xs → Q ys { s with drawn := d' }) → wpAny M A (drawOrder n xs) Q E s
  | 0, xs, s, Q, hl, h => by
    obtain rfl : xs = [] := List.length_eq_zero_iff.mp hl
    have e : s = { s with drawn := s.drawn } := by cases s; rfl
    unfold drawOrder
    refine wpAny_pure ?_
    rw [e]
    exact h [] _ (.refl _)
  | n + 1, [], s, Q, hl, h => by cases hl
  | n + 1, x :: xs, s, Q, hl, h => by
    unfold drawOrder
    refine wpAny_bind (wpAny_choose (by simp) fun i d' hi => ?_)
    have e : (x :: xs)[i]? = some (x :: xs)[i] := List.getElem?_eq_getElem hi
    rw [e]
    dsimp only
    refine wpAny_bind (wpAny_drawOrder n ((x :: xs).eraseIdx i) _ _ (by rw [List.length_eraseIdx_of_lt hi, hl]; rfl) fun ys d'' hp => wpAny_pure ?_)
    exact h _ d'' ((hp.cons _).trans (erase_perm _ i hi))
/- the iterator -/
noncomputable def SitAt (h : Heap) (it a : Addr) (first : Value) (i n ep : Nat) : Prop := ∃ o, h.get? it = some o ∧ o.cls = .type "set_iterator" ∧ o.data = .fields #[first, .int i 0, .ref a, .int n 0, .int ep 0]
noncomputable def SAt (h : Heap) (a : Addr) (es : Array (Int × Value)) (ep : Nat) (t : SetTable) : Prop := ∃ o, h.get? a = some o ∧ o.cls = .type "set" ∧ o.data = .set es ep t
section
variable {prog : Program} {w : World} {A : Around} {E : Value → Shared → Prop} {s : Shared} {a it : Addr} {es : Array (Int × Value)} {ep : Nat} {t : SetTable}
theorem SitAt.typeIs {first : Value} {i n : Nat} (h : SitAt s.heap it a first i n ep) : s.TypeIs (.ref it) "set_iterator" := let ⟨o, e, c, _⟩ := h; ⟨o, e, c⟩
/- iter(set): by the text's order, or of one element at most -/
theorem iter_set_plain {Q : Value → Shared → Prop} (hS : SAt s.heap a es ep t) (hf : t.fits es.size = true) (hnd : (!w.params.followText "set-order" && (!t.plain && decide (es.size > 1))) = false)
    (h : Q (.ref s.heap.objs.size) { s with heap := s.heap.push { cls := .type "set_iterator", data := .fields #[.int 0 0, .int 0 0, .ref a, .int es.size 0, .int ep 0] } }) :
    wpAny (model prog w) A (pyIter (.ref a)) Q E s := by
  obtain ⟨o, ho, hc, hd⟩ := hS
  have hT : s.TypeIs (.ref a) "set" := ⟨o, ho, hc⟩
  refine wpAny_pyIter_slot hT PySem.F.slot_set_iter (wpAny_call_entry PySem.F.slot_set_iter hT entry_set_iter ?_ (PySem.F.args_set_iter_1 _))
  unfold Builtin.«frozenset.__iter__» Builtin.Frozenset.slot0 slotArgs
  simp only [List.isEmpty_nil, Bool.not_true, Bool.false_eq_true, ↓reduceIte, bind_assoc, List.length_nil, bne_self_eq_false]
  unfold Builtin.Frozenset.addrOf Builtin.Frozenset.sizeOf
  refine wpAny_bind (wpAny_pure ?_)
  try dsimp only
  refine wpAny_bind (wpAny_pure ?_)
  refine wpAny_bind (wpAny_bind (wpAny_setEntries_of ho hd hf (wpAny_pure ?_)))
  unfold setDrawn setsByText
  refine wpAny_bind (wpAny_bind (wpAny_setState_of ho hd hf ?_))
  refine wpAny_bind (wpAny_bind (wpAny_askSetting (wpAny_pure ?_)))
  refine wpAny_pure ?_
  refine wpAny_ite_split (fun z => ?_) (fun _ => ?_)
  · have z' : (!w.params.followText "set-order" && (!t.plain && decide (es.size > 1))) = true := z
    rw [hnd] at z'
    cases z'
  refine wpAny_bind (wpAny_pure ?_)
  refine wpAny_bind (wpAny_setEpoch_of ho hd hf ?_)
  unfold newFields
  refine wpAny_bind (wpAny_newObj_type (wpAny_pure ⟨_, rfl, "set_iterator", _, ⟨_, Heap.get?_push_size _ rfl, rfl⟩, slot_sit_next.lookup, ?_⟩))
  exact h
noncomputable def placesT (ps : List Nat) : Obj := { cls := .type "tuple", data := .seq (ps.map fun (i : Nat) => rawInt i).toArray }
/- iter(set): an order drawn -/
theorem iter_set_drawn {Q : Value → Shared → Prop} (hS : SAt s.heap a es ep t) (hf : t.fits es.size = true) (hnd : (!w.params.followText "set-order" && (!t.plain && decide (es.size > 1))) = true) (hz : es.size ≤ sizeLine)
    (h : ∀ ps d', ps.Perm (List.range es.size) → Q (.ref (s.heap.push (placesT ps)).objs.size) { s with heap := (s.heap.push (placesT ps)).push { cls := .type "set_iterator", data := .fields #[.ref s.heap.objs.size, .int 0 0, .ref a, .int es.size 0, .int ep 0] }, drawn := d' }) :
    wpAny (model prog w) A (pyIter (.ref a)) Q E s := by
  obtain ⟨o, ho, hc, hd⟩ := hS
  have hT : s.TypeIs (.ref a) "set" := ⟨o, ho, hc⟩
  refine wpAny_pyIter_slot hT PySem.F.slot_set_iter (wpAny_call_entry PySem.F.slot_set_iter hT entry_set_iter ?_ (PySem.F.args_set_iter_1 _))
  unfold Builtin.«frozenset.__iter__» Builtin.Frozenset.slot0 slotArgs
  simp only [List.isEmpty_nil, Bool.not_true, Bool.false_eq_true, ↓reduceIte, bind_assoc, List.length_nil, bne_self_eq_false]
  unfold Builtin.Frozenset.addrOf Builtin.Frozenset.sizeOf
  refine wpAny_bind (wpAny_pure ?_)
  try dsimp only
  refine wpAny_bind (wpAny_pure ?_)
  refine wpAny_bind (wpAny_bind (wpAny_setEntries_of ho hd hf (wpAny_pure ?_)))
  unfold setDrawn setsByText
  refine wpAny_bind (wpAny_bind (wpAny_setState_of ho hd hf ?_))
  refine wpAny_bind (wpAny_bind (wpAny_askSetting (wpAny_pure ?_)))
  refine wpAny_pure ?_
  refine wpAny_ite_split (fun _ => ?_) (fun z => absurd (show (!w.params.followText "set-order" && (!t.plain && decide (es.size > 1))) = true from hnd) z)
  refine wpAny_bind (wpAny_drawOrder _ _ _ _ List.length_range fun ps d' hp => ?_)
  have hl : (ps.map fun i : Nat => rawInt i).length ≤ sizeLine := by rw [List.length_map, hp.length_eq, List.length_range]; exact hz
  refine wpAny_bind (wpAny_newTuple ?_ hl)
  refine wpAny_bind (wpAny_setEpoch_of (s := { s with heap := s.heap.push (placesT ps), drawn := d' }) (Heap.get?_push_of_some _ ho) hd hf ?_)
  unfold newFields
  refine wpAny_bind (wpAny_newObj_type (wpAny_pure ⟨_, rfl, "set_iterator", _, ⟨_, Heap.get?_push_size _ rfl, rfl⟩, slot_sit_next.lookup, ?_⟩))
  exact h ps d' hp
/- next: by the text's order, or of one element at most -/
theorem next_set_plain {Q : Option Value → Shared → Prop} {i slot : Nat} (hI : SitAt s.heap it a (.int slot 0) i es.size ep) (hS : SAt s.heap a es ep t) (hf : t.fits es.size = true) (hne : a ≠ it) (x : Value) (nx : Nat)
    (hN : ∀ (A' : Around) (E' : Value → Shared → Prop) (R : Option (Value × Nat) → Shared → Prop), R (some (x, nx)) s → wpAny (model prog w) A' (setNext a slot i ep) R E' s)
    (h : ∀ h', SitAt h' it a (.int nx 0) (i + 1) es.size ep → Heap.SameBut it s.heap h' → Q (some x) { s with heap := h' }) : wpAny (model prog w) A (pyNext (.ref it)) Q E s := by
  obtain ⟨oi, hoi, hci, hdi⟩ := id hI
  obtain ⟨o, ho, hc, hd⟩ := hS
  unfold pyNext
  refine wpAny_bind (wpAny_attempt (wpAny_callSpecial?_slot (name := Str.ofString "__next__") hI.typeIs slot_sit_next (wpAny_call_entry slot_sit_next hI.typeIs entry_sit_next ?_ (args_sit_next _))))
  unfold Builtin.«set_iterator.__next__» slotArgs
  simp only [List.isEmpty_nil, Bool.not_true, Bool.false_eq_true, ↓reduceIte, bind_assoc, List.length_nil, bne_self_eq_false]
  refine wpAny_bind (wpAny_pure ?_)
  refine wpAny_bind (wpAny_fieldsOf hoi hdi ?_)
  dsimp only
  refine wpAny_bind (wpAny_setEntries_of ho hd hf ?_)
  rw [if_neg (by simp)]
  simp only [Int.toNat_natCast]
  refine wpAny_bind (hN _ _ _ ?_)
  dsimp only
  refine wpAny_bind (wpAny_setField hoi hdi (by simp) ?_)
  have g1 := Heap.get?_update_self (Obj.mapFields (·.setIfInBounds 0 (rawInt (nx : Int)))) hoi (Obj.isFreed_of_fields (Obj.data_mapFields hdi _))
  have d1 := Obj.data_mapFields hdi (·.setIfInBounds 0 (rawInt (nx : Int)))
  refine wpAny_bind (wpAny_setField (s := { s with heap := s.heap.update it (Obj.mapFields (·.setIfInBounds 0 (rawInt (nx : Int)))) }) g1 d1 (by simp) ?_)
  have g2 := Heap.get?_update_self (Obj.mapFields (·.setIfInBounds 1 (rawInt ((i : Int) + 1)))) g1 (Obj.isFreed_of_fields (Obj.data_mapFields d1 _))
  have d2 := Obj.data_mapFields d1 (·.setIfInBounds 1 (rawInt ((i : Int) + 1)))
  refine wpAny_pure ⟨_, rfl, wpAny_pure (h _ ⟨_, g2, (Obj.cls_mapFields ..).trans ((Obj.cls_mapFields ..).trans hci), ?_⟩ ?_)⟩
  · rw [d2]; simp [rawInt]
  · exact (Heap.SameBut.update ..).trans (Heap.SameBut.update ..)
theorem next_set_stop {Q : Option Value → Shared → Prop} {i slot : Nat} (hh : A.handled = none) (hI : SitAt s.heap it a (.int slot 0) i es.size ep) (hS : SAt s.heap a es ep t) (hf : t.fits es.size = true)
    (hN : ∀ (A' : Around) (E' : Value → Shared → Prop) (R : Option (Value × Nat) → Shared → Prop), R none s → wpAny (model prog w) A' (setNext a slot i ep) R E' s)
    (h : ∀ h', Heap.ExtBut it s.heap h' → Q none { s with heap := h' }) : wpAny (model prog w) A (pyNext (.ref it)) Q E s := by
  obtain ⟨oi, hoi, hci, hdi⟩ := id hI
  obtain ⟨o, ho, hc, hd⟩ := hS
  unfold pyNext
  refine wpAny_bind (wpAny_attempt (wpAny_callSpecial?_slot (name := Str.ofString "__next__") hI.typeIs slot_sit_next (wpAny_call_entry slot_sit_next hI.typeIs entry_sit_next ?_ (args_sit_next _))))
  unfold Builtin.«set_iterator.__next__» slotArgs
  simp only [List.isEmpty_nil, Bool.not_true, Bool.false_eq_true, ↓reduceIte, bind_assoc, List.length_nil, bne_self_eq_false]
  refine wpAny_bind (wpAny_pure ?_)
  refine wpAny_bind (wpAny_fieldsOf hoi hdi ?_)
  dsimp only
  refine wpAny_bind (wpAny_setEntries_of ho hd hf ?_)
  rw [if_neg (by simp)]
  simp only [Int.toNat_natCast]
  refine wpAny_bind (hN _ _ _ ?_)
  dsimp only
  refine wpAny_bind (wpAny_setField hoi hdi (by simp) ?_)
  refine wpAny_bind ?_
  simp only [newExc, newTuple]
  refine wpAny_bind (wpAny_newObj_type ?_ (by size_fits))
  refine wpAny_bind (m := firstArgMember _ _) (wpAny_of_eq (a := Value.none) (by first | rfl | (simp only [firstArgMember]; rfl)) ?_)
  refine wpAny_newObj_type ?_ (by size_fits)
  simp only [raiseNew]
  refine wpAny_bind (wpAny_handled ?_)
  rw [show A.in1.handled = none from hh]
  refine wpAny_bind (wpAny_pure (wpAny_throw ?_))
  refine wpAny_bind (wpAny_isInstance (T := "StopIteration") (b := true) ⟨_, Heap.get?_push_size _ rfl, rfl⟩ isSubtype_stop ?_)
  exact wpAny_pure (h _ (((Heap.SameBut.update ..).extBut.push _).push _))
/- next: an order drawn -/
theorem next_set_drawn {Q : Option Value → Shared → Prop} {T : Addr} {ps : List Nat} {i p : Nat} (hI : SitAt s.heap it a (.ref T) i es.size ep) (hT : s.heap.get? T = some (placesT ps)) (hS : SAt s.heap a es ep t) (hf : t.fits es.size = true) (hp : ps[i]? = some p) {e : Int × Value} (he : es[p]? = some e)
    (h : ∀ h', SitAt h' it a (.ref T) (i + 1) es.size ep → Heap.SameBut it s.heap h' → Q (some e.2) { s with heap := h' }) : wpAny (model prog w) A (pyNext (.ref it)) Q E s := by
  obtain ⟨oi, hoi, hci, hdi⟩ := id hI
  obtain ⟨o, ho, hc, hd⟩ := hS
  unfold pyNext
  refine wpAny_bind (wpAny_attempt (wpAny_callSpecial?_slot (name := Str.ofString "__next__") hI.typeIs slot_sit_next (wpAny_call_entry slot_sit_next hI.typeIs entry_sit_next ?_ (args_sit_next _))))
  unfold Builtin.«set_iterator.__next__» slotArgs
  simp only [List.isEmpty_nil, Bool.not_true, Bool.false_eq_true, ↓reduceIte, bind_assoc, List.length_nil, bne_self_eq_false]
  refine wpAny_bind (wpAny_pure ?_)
  refine wpAny_bind (wpAny_fieldsOf hoi hdi ?_)
  dsimp only
  refine wpAny_bind (wpAny_setEntries_of ho hd hf ?_)
  rw [if_neg (by simp)]
  simp only [Int.toNat_natCast]
  refine wpAny_bind (wpAny_seqItems hT rfl ?_)
  dsimp only
  have e1 : ((ps.map fun (i : Nat) => rawInt i).toArray)[i]? = some (rawInt p) := by rw [List.getElem?_toArray, List.getElem?_map, hp]; rfl
  rw [e1]
  dsimp only [rawInt]
  unfold setNextDrawn
  simp only [Int.toNat_natCast, bind_assoc]
  refine wpAny_bind (wpAny_setState_of ho hd hf ?_)
  rw [if_neg (by simp)]
  rw [he]
  dsimp only
  simp only [pure_bind]
  refine wpAny_bind (wpAny_setField hoi hdi (by simp) ?_)
  have g1 := Heap.get?_update_self (Obj.mapFields (·.setIfInBounds 1 (rawInt ((i : Int) + 1)))) hoi (Obj.isFreed_of_fields (Obj.data_mapFields hdi _))
  have d1 := Obj.data_mapFields hdi (·.setIfInBounds 1 (rawInt ((i : Int) + 1)))
  refine wpAny_pure ⟨_, rfl, wpAny_pure (h _ ⟨_, g1, (Obj.cls_mapFields ..).trans hci, ?_⟩ (Heap.SameBut.update ..))⟩
  rw [d1]; simp [rawInt]
theorem next_set_drawn_stop {Q : Option Value → Shared → Prop} {T : Addr} {ps : List Nat} {i : Nat} (hh : A.handled = none) (hI : SitAt s.heap it a (.ref T) i es.size ep) (hT : s.heap.get? T = some (placesT ps)) (hS : SAt s.heap a es ep t) (hf : t.fits es.size = true) (hp : ps[i]? = none)
    (h : ∀ h', Heap.ExtBut it s.heap h' → Q none { s with heap := h' }) : wpAny (model prog w) A (pyNext (.ref it)) Q E s := by
  obtain ⟨oi, hoi, hci, hdi⟩ := id hI
  obtain ⟨o, ho, hc, hd⟩ := hS
  unfold pyNext
  refine wpAny_bind (wpAny_attempt (wpAny_callSpecial?_slot (name := Str.ofString "__next__") hI.typeIs slot_sit_next (wpAny_call_entry slot_sit_next hI.typeIs entry_sit_next ?_ (args_sit_next _))))
  unfold Builtin.«set_iterator.__next__» slotArgs
  simp only [List.isEmpty_nil, Bool.not_true, Bool.false_eq_true, ↓reduceIte, bind_assoc, List.length_nil, bne_self_eq_false]
  refine wpAny_bind (wpAny_pure ?_)
  refine wpAny_bind (wpAny_fieldsOf hoi hdi ?_)
  dsimp only
  refine wpAny_bind (wpAny_setEntries_of ho hd hf ?_)
  rw [if_neg (by simp)]
  simp only [Int.toNat_natCast]
  refine wpAny_bind (wpAny_seqItems hT rfl ?_)
  dsimp only
  have e1 : ((ps.map fun (i : Nat) => rawInt i).toArray)[i]? = none := by rw [List.getElem?_toArray, List.getElem?_map, hp]; rfl
  rw [e1]
  dsimp only
  refine wpAny_bind (wpAny_setField hoi hdi (by simp) ?_)
  have g1 := Heap.get?_update_self (Obj.mapFields (·.setIfInBounds 0 (rawInt 0))) hoi (Obj.isFreed_of_fields (Obj.data_mapFields hdi _))
  have d1 := Obj.data_mapFields hdi (·.setIfInBounds 0 (rawInt 0))
  refine wpAny_bind (wpAny_setField (s := { s with heap := s.heap.update it (Obj.mapFields (·.setIfInBounds 0 (rawInt 0))) }) g1 d1 (by simp) ?_)
  refine wpAny_bind ?_
  simp only [newExc, newTuple]
  refine wpAny_bind (wpAny_newObj_type ?_ (by size_fits))
  refine wpAny_bind (m := firstArgMember _ _) (wpAny_of_eq (a := Value.none) (by first | rfl | (simp only [firstArgMember]; rfl)) ?_)
  refine wpAny_newObj_type ?_ (by size_fits)
  simp only [raiseNew]
  refine wpAny_bind (wpAny_handled ?_)
  rw [show A.in1.handled = none from hh]
  refine wpAny_bind (wpAny_pure (wpAny_throw ?_))
  refine wpAny_bind (wpAny_isInstance (T := "StopIteration") (b := true) ⟨_, Heap.get?_push_size _ rfl, rfl⟩ isSubtype_stop ?_)
  exact wpAny_pure (h _ ((((Heap.SameBut.update ..).trans (Heap.SameBut.update ..)).extBut.push _).push _))
end
end L2
set_option Elab.async false
set_option linter.all false
set_option maxRecDepth 100000
set_option maxHeartbeats 4000000
namespace L2
open PySem PySem.Spec PyProof.Rows
section
variable {prog : Program} {w : World} {A : Around} {E : Value → Shared → Prop} {s : Shared} {a it : Addr} {es : Array (Int × Value)} {ep : Nat} {t : SetTable}
/- in the text's order -/
theorem setNext_text {i slot : Nat} {R : Option (Value × Nat) → Shared → Prop} (hS : SAt s.heap a es ep t) (hf : t.fits es.size = true) (hb : w.params.followText "set-order" = true)
    (h : R (((pickOrder (w.params.setOrder a ep) es)[i]?).map fun e => (e.2, slot)) s) : wpAny (model prog w) A (setNext a slot i ep) R E s := by
  obtain ⟨o, ho, hc, hd⟩ := hS
  unfold setNext setsByText
  refine wpAny_bind (wpAny_setState_of ho hd hf ?_)
  refine wpAny_bind (wpAny_bind (wpAny_askSetting (wpAny_pure ?_)))
  refine wpAny_ite_split (fun _ => ?_) (fun z => absurd (show w.params.followText "set-order" = true from hb) z)
  rw [if_neg (by simp)]
  refine wpAny_bind ?_
  unfold setWalk setsByText
  refine wpAny_bind (wpAny_setState_of ho hd hf ?_)
  refine wpAny_bind (wpAny_bind (wpAny_askSetting (wpAny_pure ?_)))
  refine wpAny_ite_split (fun _ => ?_) (fun z => absurd (show w.params.followText "set-order" = true from hb) z)
  refine wpAny_bind (wpAny_askSetting ?_)
  exact wpAny_pure (wpAny_pure h)
/- of one element at most -/
theorem setNext_few {i slot : Nat} {R : Option (Value × Nat) → Shared → Prop} (hS : SAt s.heap a es ep t) (hf : t.fits es.size = true) (hb : w.params.followText "set-order" = false) (hl : t.led = true) (hz : es.size ≤ 1)
    (h : R (match es[SetTable.below t.place slot]?, t.place[SetTable.below t.place slot]? with | some (_, x), some j => some (x, j + 1) | _, _ => none) s) : wpAny (model prog w) A (setNext a slot i ep) R E s := by
  obtain ⟨o, ho, hc, hd⟩ := hS
  unfold setNext setsByText
  refine wpAny_bind (wpAny_setState_of ho hd hf ?_)
  refine wpAny_bind (wpAny_bind (wpAny_askSetting (wpAny_pure ?_)))
  refine wpAny_ite_split (fun z => absurd (show w.params.followText "set-order" = true from z) (by rw [hb]; exact Bool.false_ne_true)) (fun _ => ?_)
  refine wpAny_ite_split (fun z => ?_) (fun _ => ?_)
  · have z' : (!t.plain && decide (es.size > 1)) = true := z
    rw [Bool.and_eq_true] at z'
    have := of_decide_eq_true z'.2
    omega
  refine wpAny_bind ?_
  show wpAny _ _ (if (!t.led && !es.isEmpty) = true then _ else pure ()) _ _ s
  rw [if_neg (by rw [hl]; simp)]
  exact wpAny_pure (wpAny_pure h)
theorem SAt.at {h h' : Heap} (x : SAt h a es ep t) (k : ∀ o, h.get? a = some o → h'.get? a = some o) : SAt h' a es ep t := let ⟨o, e, r⟩ := x; ⟨o, k o e, r⟩
theorem SitAt.at {h h' : Heap} {first : Value} {i n : Nat} (x : SitAt h it a first i n ep) (k : ∀ o, h.get? it = some o → h'.get? it = some o) : SitAt h' it a first i n ep := let ⟨o, e, r⟩ := x; ⟨o, k o e, r⟩
theorem entry_sit_iter : entryFor table "set_iterator.__iter__" = some Builtin.«dict_keyiterator.__iter__» := entryFor_alias (id' := "dict_keyiterator.__iter__") (by kernel_rfl) rfl (by decide +kernel) (by kernel_rfl)
theorem args_sit_iter (a : Value) : argsOk "set_iterator.__iter__" ⟨[a], []⟩ := by unfold argsOk; kernel_rfl
theorem sit_self {first : Value} {i n : Nat} {Q : Value → Shared → Prop} (hI : SitAt s.heap it a first i n ep) (h : Q (.ref it) s) : wpAny (model prog w) A (pyIter (.ref it)) Q E s := by
  refine wpAny_pyIter_slot hI.typeIs slot_sit_iter (wpAny_call_entry slot_sit_iter hI.typeIs entry_sit_iter ?_ (args_sit_iter _))
  show wpAny _ _ (ret (.ref it)) _ _ s
  exact wpAny_pure ⟨_, rfl, "set_iterator", _, hI.typeIs, slot_sit_next.lookup, h⟩
theorem walks_text (hb : w.params.followText "set-order" = true) (hf : t.fits es.size = true) (hh : A.handled = none) (hne : a ≠ it) :
    Walks prog w A it [it, a] [it] es.size (fun i v => ((pickOrder (w.params.setOrder a ep) es).toList.map (·.2))[i]? = some v) (fun i h => SitAt h it a (.int 0 0) i es.size ep ∧ SAt h a es ep t) where
  sub := fun b hb => by simp at hb; simp [hb]
  frame := fun _ _ _ st hk => ⟨st.1.at fun o e => hk it (by simp) o e, st.2.at fun o e => hk a (by simp) o e⟩
  item := fun i s Q E hi st hQ => by
    have hl : (pickOrder (w.params.setOrder a ep) es).size = es.size := by have := (pick_perm (w.params.setOrder a ep) es).length_eq; simpa using this
    have e1 : (pickOrder (w.params.setOrder a ep) es)[i]? = some ((pickOrder (w.params.setOrder a ep) es)[i]'(by omega)) := Array.getElem?_eq_getElem (by omega)
    refine next_set_plain (slot := 0) (nx := 0) st.1 st.2 hf hne _ (fun A' E' R r => setNext_text st.2 hf hb (by rw [e1]; exact r)) fun h' hI' sb => ?_
    refine hQ _ h' s.toks ?_ ⟨hI', st.2.at fun o e => (sb.2 a hne).trans e⟩ fun b o hb e => (sb.2 b (fun z => hb (by simp [z]))).trans e
    rw [List.getElem?_map, Array.getElem?_toList, e1]
    rfl
  done := fun s Q E st hQ => by
    have hl : (pickOrder (w.params.setOrder a ep) es).size = es.size := by have := (pick_perm (w.params.setOrder a ep) es).length_eq; simpa using this
    refine next_set_stop (slot := 0) hh st.1 st.2 hf (fun A' E' R r => setNext_text st.2 hf hb (by rw [Array.getElem?_eq_none (by omega)]; exact r)) fun h' eb => hQ h' s.toks fun b o hb e => eb b o (fun z => hb (by simp [z])) e
  self := fun _ _ _ _ st hQ => sit_self st.1 hQ
theorem below_one_0 (j : Nat) : SetTable.below #[j] 0 = 0 := by
  unfold SetTable.below
  simp [SetTable.below.go]
theorem below_one_1 (j : Nat) : SetTable.below #[j] (j + 1) = 1 := by
  unfold SetTable.below
  simp [SetTable.below.go]
theorem few_one (es : Array (Int × Value)) (pl : Array Nat) (h1 : es.size = 1) (h2 : pl.size = es.size) : ∃ e j, es = #[e] ∧ pl = #[j] := by
  obtain ⟨l⟩ := es
  obtain ⟨m⟩ := pl
  simp only [List.size_toArray] at h1 h2
  obtain ⟨e, rfl⟩ := List.length_eq_one_iff.mp h1
  obtain ⟨j, rfl⟩ := List.length_eq_one_iff.mp (h2.trans h1)
  exact ⟨e, j, rfl, rfl⟩
theorem walks_few (hb : w.params.followText "set-order" = false) (hf : t.fits es.size = true) (hl : t.led = true) (hz : es.size ≤ 1) (hh : A.handled = none) (hne : a ≠ it) :
    Walks prog w A it [it, a] [it] es.size (fun i v => (es.toList.map (·.2))[i]? = some v) (fun i h => SitAt h it a (.int ((if i = 0 then 0 else t.place.getD 0 0 + 1 : Nat) : Int) 0) i es.size ep ∧ SAt h a es ep t) where
  sub := fun b hb => by simp at hb; simp [hb]
  frame := fun _ _ _ st hk => ⟨st.1.at fun o e => hk it (by simp) o e, st.2.at fun o e => hk a (by simp) o e⟩
  item := fun i s Q E hi st hQ => by
    have h1 : es.size = 1 := by omega
    have h0 : i = 0 := by omega
    subst h0
    have hp : t.place.size = es.size := by unfold SetTable.fits at hf; rw [Bool.and_eq_true] at hf; exact eq_of_beq hf.1
    obtain ⟨e, j, e1, e2⟩ := few_one es t.place h1 hp
    refine next_set_plain (slot := 0) (nx := j + 1) st.1 st.2 hf hne e.2 (fun A' E' R r => setNext_few st.2 hf hb hl hz (by rw [e2, below_one_0, e1]; exact r)) fun h' hI' sb => ?_
    refine hQ _ h' s.toks (by rw [e1]; rfl) ⟨?_, st.2.at fun o e => (sb.2 a hne).trans e⟩ fun b o hb e => (sb.2 b (fun z => hb (by simp [z]))).trans e
    have e3 : (if 0 + 1 = 0 then 0 else t.place.getD 0 0 + 1 : Nat) = j + 1 := by rw [e2]; rfl
    rw [e3]
    exact hI'
  done := fun s Q E st hQ => by
    by_cases h1 : es.size = 1
    · have hp : t.place.size = es.size := by unfold SetTable.fits at hf; rw [Bool.and_eq_true] at hf; exact eq_of_beq hf.1
      obtain ⟨e, j, e1, e2⟩ := few_one es t.place h1 hp
      have e3 : (if es.size = 0 then 0 else t.place.getD 0 0 + 1 : Nat) = j + 1 := by rw [h1, e2]; rfl
      have st1 := st.1
      rw [e3] at st1
      refine next_set_stop (slot := j + 1) hh st1 st.2 hf (fun A' E' R r => setNext_few st.2 hf hb hl hz (by rw [e2, below_one_1, e1]; exact r)) fun h' eb => hQ h' s.toks fun b o hb e => eb b o (fun z => hb (by simp [z])) e
    · refine next_set_stop hh st.1 st.2 hf (fun A' E' R r => setNext_few st.2 hf hb hl hz (by rw [Array.getElem?_eq_none (by omega)]; exact r)) fun h' eb => hQ h' s.toks fun b o hb e => eb b o (fun z => hb (by simp [z])) e
  self := fun _ _ _ _ st hQ => sit_self st.1 hQ
theorem walks_drawn {T : Addr} {ps : List Nat} (hps : ps.Perm (List.range es.size)) (hf : t.fits es.size = true) (hh : A.handled = none) (hne : a ≠ it) (hTi : T ≠ it) :
    Walks prog w A it [it, a, T] [it] es.size (fun i v => ((ps.map fun p => es.toList.getD p (0, .none)).map (·.2))[i]? = some v) (fun i h => SitAt h it a (.ref T) i es.size ep ∧ SAt h a es ep t ∧ h.get? T = some (placesT ps)) where
  sub := fun b hb => by simp at hb; simp [hb]
  frame := fun _ _ _ st hk => ⟨st.1.at fun o e => hk it (by simp) o e, st.2.1.at fun o e => hk a (by simp) o e, hk T (by simp) _ st.2.2⟩
  item := fun i s Q E hi st hQ => by
    have hl : ps.length = es.size := by rw [hps.length_eq, List.length_range]
    have e0 : ps[i]? = some (ps[i]'(by omega)) := List.getElem?_eq_getElem (by omega)
    have hlt : ps[i]'(by omega) < es.size := List.mem_range.mp (hps.mem_iff.mp (List.getElem_mem (by omega)))
    have e1 : es[ps[i]'(by omega)]? = some (es.toList.getD (ps[i]'(by omega)) (0, .none)) := by
      rw [List.getD_eq_getElem?_getD, Array.getElem?_toList, Array.getElem?_eq_getElem hlt]; rfl
    refine next_set_drawn st.1 st.2.2 st.2.1 hf e0 e1 fun h' hI' sb => ?_
    refine hQ _ h' s.toks ?_ ⟨hI', st.2.1.at fun o e => (sb.2 a hne).trans e, (sb.2 T hTi).trans st.2.2⟩ fun b o hb e => (sb.2 b (fun z => hb (by simp [z]))).trans e
    rw [List.getElem?_map, List.getElem?_map, e0]
    rfl
  done := fun s Q E st hQ => by
    have hl : ps.length = es.size := by rw [hps.length_eq, List.length_range]
    refine next_set_drawn_stop hh st.1 st.2.2 st.2.1 hf (List.getElem?_eq_none (by omega)) fun h' eb => hQ h' s.toks fun b o hb e => eb b o (fun z => hb (by simp [z])) e
  self := fun _ _ _ _ st hQ => sit_self st.1 hQ
theorem strs_elems : ∀ {l : List (Int × Value)}, ElemsOf (strKind prog w) l → StrsAre (l.map (·.2)) (l.map fun e => keyT e.2)
  | [], _ => .nil
  | e :: l, h => by
    obtain ⟨t, q⟩ := elem_str h (List.mem_cons_self ..)
    have ih := strs_elems (l := l) fun e he => h e (List.mem_cons_of_mem _ he)
    show StrsAre (e.2 :: l.map (·.2)) (keyT e.2 :: l.map fun e => keyT e.2)
    rw [q]
    exact .cons _ _ ih
theorem range_getE {α : Type} (l : List α) (d : α) : (List.range l.length).map (fun i => l.getD i d) = l := by
  apply List.ext_getElem
  · rw [List.length_map, List.length_range]
  · intro i h1 h2
    rw [List.getElem_map, List.getElem_range, List.getD_eq_getElem?_getD, List.getElem?_eq_getElem h2]
    rfl
theorem push_lt (h : Heap) (o : Obj) : h.objs.size < (h.push o).objs.size := by rw [Heap.size_push]; exact Nat.lt_succ_self _
/- iter(set): what comes, in some order -/
theorem iter_setT {ks : List Str} {Q : Value → Shared → Prop} (hS : SetT prog w (!w.params.followText "set-order") a ks s.heap)
    (h : ∀ (I : Addr) (h' : Heap) (d' : Drawn) (fp : List Addr) (vs : List Value) (ss : List Str) (St : Nat → Heap → Prop), (∀ b o, s.heap.get? b = some o → h'.get? b = some o) → s.heap.objs.size ≤ I → I < h'.objs.size → (∀ b ∈ fp, b = a ∨ s.heap.objs.size ≤ b) →
      StrsAre vs ss → ss.Perm ks → (∀ A' : Around, A'.handled = none → Walks prog w A' I fp [I] vs.length (fun i v => vs[i]? = some v) St) → St 0 h' → Q (.ref I) { s with heap := h', drawn := d' }) :
    wpAny (model prog w) A (pyIter (.ref a)) Q E s := by
  obtain ⟨o, es, ep, t, ho, hex, hd, hel, hb, hf, hled, hpl, hpm⟩ := hS
  have hS : SAt s.heap a es ep t := ⟨o, ho, hex.1, hd⟩
  have lt : a < s.heap.objs.size := Heap.lt_size ho
  have ne : a ≠ s.heap.objs.size := Nat.ne_of_lt lt
  have fpk : ∀ b ∈ [s.heap.objs.size, a], b = a ∨ s.heap.objs.size ≤ b := fun b hb => by
    rcases List.mem_cons.mp hb with e | hb
    · exact .inr (by omega)
    · exact .inl (List.mem_singleton.mp hb)
  by_cases hbt : w.params.followText "set-order" = true
  · have pp := pick_perm (w.params.setOrder a ep) es
    have hl : ((pickOrder (w.params.setOrder a ep) es).toList.map (·.2)).length = es.size := by rw [List.length_map, pp.length_eq, Array.length_toList]
    refine iter_set_plain hS hf (by rw [hbt]; rfl) ?_
    refine h s.heap.objs.size _ s.drawn [s.heap.objs.size, a] ((pickOrder (w.params.setOrder a ep) es).toList.map (·.2)) ((pickOrder (w.params.setOrder a ep) es).toList.map fun e => keyT e.2) (fun i h => SitAt h s.heap.objs.size a (.int 0 0) i es.size ep ∧ SAt h a es ep t) (fun b o e => Heap.get?_push_of_some _ e) (Nat.le_refl _) (push_lt _ _) fpk
      (strs_elems (hel.perm pp)) ((pp.map _).trans hpm) (fun A' hA' => by rw [hl]; exact walks_text hbt hf hA' ne) ⟨⟨_, Heap.get?_push_size _ rfl, rfl, rfl⟩, hS.at fun o e => Heap.get?_push_of_some _ e⟩
  · have hbf : w.params.followText "set-order" = false := Bool.eq_false_iff.mpr hbt
    by_cases hz : es.size ≤ 1
    · have hl : (es.toList.map (·.2)).length = es.size := by rw [List.length_map, Array.length_toList]
      refine iter_set_plain hS hf (by rw [decide_eq_false (show ¬ es.size > 1 by omega), Bool.and_false, Bool.and_false]) ?_
      refine h s.heap.objs.size _ s.drawn [s.heap.objs.size, a] (es.toList.map (·.2)) (es.toList.map fun e => keyT e.2) (fun i h => SitAt h s.heap.objs.size a (.int ((if i = 0 then 0 else t.place.getD 0 0 + 1 : Nat) : Int) 0) i es.size ep ∧ SAt h a es ep t) (fun b o e => Heap.get?_push_of_some _ e) (Nat.le_refl _) (push_lt _ _) fpk
        (strs_elems hel) hpm (fun A' hA' => by rw [hl]; exact walks_few hbf hf (by rw [hled, hbf]; rfl) hz hA' ne) ⟨⟨_, Heap.get?_push_size _ rfl, rfl, rfl⟩, hS.at fun o e => Heap.get?_push_of_some _ e⟩
    · have hp : t.plain = false := by
        cases e : t.plain with
        | false => rfl
        | true => have := hpl e; omega
      refine iter_set_drawn hS hf (by rw [hbf, hp, decide_eq_true (show es.size > 1 by omega)]; rfl) (Nat.le_of_lt (Nat.lt_of_lt_of_le hb (by decide))) fun ps d' hps => ?_
      have pp : (ps.map fun p => es.toList.getD p (0, Value.none)).Perm es.toList := by
        have e1 := hps.map (fun p => es.toList.getD p (0, Value.none))
        have e2 := range_getE es.toList (0, Value.none)
        rw [Array.length_toList] at e2
        rw [e2] at e1
        exact e1
      have hl : ((ps.map fun p => es.toList.getD p (0, Value.none)).map (·.2)).length = es.size := by rw [List.length_map, pp.length_eq, Array.length_toList]
      have sz : (s.heap.push (placesT ps)).objs.size = s.heap.objs.size + 1 := Heap.size_push ..
      have neI : a ≠ (s.heap.push (placesT ps)).objs.size := by rw [sz]; exact Nat.ne_of_lt (Nat.lt_succ_of_lt lt)
      have neT : s.heap.objs.size ≠ (s.heap.push (placesT ps)).objs.size := by rw [sz]; omega
      refine h (s.heap.push (placesT ps)).objs.size _ d' [(s.heap.push (placesT ps)).objs.size, a, s.heap.objs.size] ((ps.map fun p => es.toList.getD p (0, Value.none)).map (·.2)) ((ps.map fun p => es.toList.getD p (0, Value.none)).map fun e => keyT e.2) (fun i h => SitAt h (s.heap.push (placesT ps)).objs.size a (.ref s.heap.objs.size) i es.size ep ∧ SAt h a es ep t ∧ h.get? s.heap.objs.size = some (placesT ps))
        (fun b o e => Heap.get?_push_of_some _ (Heap.get?_push_of_some _ e)) (by rw [sz]; omega) (push_lt _ _) (fun b hb => ?_)
        (strs_elems (hel.perm pp)) ((pp.map _).trans hpm) (fun A' hA' => by rw [hl]; exact walks_drawn hps hf hA' neI neT) ⟨⟨_, Heap.get?_push_size _ rfl, rfl, rfl⟩, hS.at fun o e => Heap.get?_push_of_some _ (Heap.get?_push_of_some _ e), Heap.get?_push_of_some _ (Heap.get?_push_size _ rfl)⟩
      rcases List.mem_cons.mp hb with e | hb
      · exact .inr (by rw [e, sz]; omega)
      · rcases List.mem_cons.mp hb with e | hb
        · exact .inl e
        · exact .inr (by rw [List.mem_singleton.mp hb]; exact Nat.le_refl _)
end
end L2
set_option Elab.async false
set_option linter.all false
set_option maxRecDepth 100000
set_option maxHeartbeats 4000000
namespace L2
open PySem PySem.Spec PyProof.Rows
section
variable {prog : Program} {w : World} {A : Around} {E : Value → Shared → Prop} {s : Shared}
theorem hint_set {r : Addr} {Q : Bool → Shared → Prop} (hT : s.TypeIs (.ref r) "set") (h : Q false s) : wpAny (model prog w) A (Builtin.List.listLengthHint (.ref r)) Q E s := by
  unfold Builtin.List.listLengthHint
  refine wpAny_bind (wpAny_specialOf hT PySem.F.slot_set_len.lookup ?_)
  generalize hid : ("set.__len__" : String) = id0
  wp_delta
  rw [show splitId id0 = some ("set", "__len__") from by subst hid; decide +kernel]
  subst hid
  refine wpAny_bind (wpAny_isInstance (T := "set") (b := true) hT (by rw [isSubtype_type]; kernel_rfl) ?_)
  refine wpAny_ite_split (fun hab => absurd hab (by decide)) (fun _ => ?_)
  refine wpAny_ite_split (fun _ => ?_) (fun hab => absurd (by decide +kernel) hab)
  refine wpAny_bind (wpAny_typeOf hT ?_)
  exact wpAny_pure h
theorem SetT.typeIs {prog : Program} {w : World} {s : Shared} {led : Bool} {a : Addr} {ks : List Str} (x : SetT prog w led a ks s.heap) : s.TypeIs (.ref a) "set" := by obtain ⟨o, _, _, _, e, hex, _⟩ := x; exact ⟨o, e, hex.1⟩
theorem SetT.lt {prog : Program} {w : World} {led : Bool} {a : Addr} {ks : List Str} {h : Heap} (x : SetT prog w led a ks h) : a < h.objs.size := by obtain ⟨o, _, _, _, e, _⟩ := x; exact Heap.lt_size e
theorem items_eq {acc : Array Value} {vs : List Value} (h : ItemsOf (fun i v => vs[i]? = some v) acc vs.length) : acc.toList = vs := by
  have hl : acc.size = vs.length := h.1
  apply List.ext_getElem?
  intro i
  by_cases hi : i < acc.size
  · rw [Array.getElem?_toList, Array.getElem?_eq_getElem hi]
    exact (h.2 i _ (Array.getElem?_eq_getElem hi)).symm
  · rw [List.getElem?_eq_none (by rw [Array.length_toList]; omega), List.getElem?_eq_none (by omega)]
theorem extend_set {R : Result → Shared → Prop} {r : Addr} {ks : List Str} (hh : A.handled = none) (hok : SetT prog w (!w.params.followText "set-order") r ks s.heap) (S : Addr) (hSr : S ≠ r) (res : Value) (c₀ : Nat) (hS : s.heap.get? S = some { cls := .type "list", data := .seq #[] c₀ }) (few : ks.length ≤ sizeLine)
    (hR : ∀ h' tk d' acc' c' ss, (∀ b o, b ≠ S → s.heap.get? b = some o → h'.get? b = some o) → h'.get? S = some { cls := .type "list", dict := none, data := .seq acc' c', slots := #[] } → StrsAre acc'.toList ss → ss.Perm ks → R (.ok (.ret res)) { s with heap := h', toks := tk, drawn := d' }) :
    wpAny (model prog w) A.in1 (Builtin.List.listExtendWith (.ref S) (.ref r) res)
      (fun fin s' => match fin with | .done f => R (.ok f) s' | .again c' => c'.quiet = true ∧ codeAny (model prog w) A c' R s') (fun e s' => R (.error e) s') s := by
  have ltS := Heap.lt_size hS
  unfold Builtin.List.listExtendWith
  refine wpAny_bind (wpAny_typeOf (T := "set") hok.typeIs ?_)
  have h1 : Builtin.List.listSameRef (.ref S) (.ref r) = false := by simp [Builtin.List.listSameRef, hSr]
  simp only [h1, show (Value.type "set" == Value.type "list") = false by decide, show (Value.type "set" == Value.type "tuple") = false by decide, Bool.or_false, Bool.false_eq_true, if_false]
  refine wpAny_bind (iter_setT hok fun I h1 d' fp vs ss St keep geI ltI hfp hst hpm W st => ?_)
  have hSf : S ∉ fp := fun z => by
    rcases hfp S z with e | e
    · exact hSr e
    · exact Nat.lt_irrefl _ (Nat.lt_of_lt_of_le ltS e)
  have hlen : vs.length ≤ sizeLine := by rw [strs_len hst, hpm.length_eq]; exact few
  have key : ∀ (h : Heap) (c₁ tk : Nat), St 0 h → (∀ b o, b ≠ S → s.heap.get? b = some o → h.get? b = some o) → h.get? S = some { cls := .type "list", data := .seq #[] c₁ } →
      codeAny (model prog w) A (.builtin "list.extend.loop" ⟨[.ref S, .ref I, res], []⟩) R { s with heap := h, toks := tk, drawn := d' } := by
    intro h c₁ tk hst0 hk hS₁
    refine codeAny_extend_loopS (W A.in1 hh).toS hlen S hSf res vs.length 0 _ #[] c₁ rfl (Nat.zero_le _) hst0 hS₁ (ItemsOf.nil _) fun s' acc' c' hm hS' hacc => ?_
    rw [Moved.eq_with hm]
    refine hR s'.heap s'.toks d' acc' c' ss (fun b o hb e => hm.heap b o (fun hmem => ?_) (hk b o hb e)) hS' (by rw [items_eq hacc]; exact hst) hpm
    rcases List.mem_cons.mp hmem with e' | hmem
    · exact hb e'
    · exact absurd (Heap.lt_size e) (by rw [List.mem_singleton.mp hmem]; exact Nat.not_lt.mpr geI)
  have hS₁ := keep _ _ hS
  have hok1 := hok.at (h' := h1) fun o e => keep _ _ e
  refine wpAny_bind (wpAny_holding (hint_set (s := { s with heap := h1, drawn := d' }) hok1.typeIs ?_))
  refine wpAny_ite_split (fun _ => ?_) (fun _ => wpAny_pure ⟨plainId_quiet PySem.F.plain_extend_loop _, key _ c₀ _ st (fun b o _ e => keep _ _ e) hS₁⟩)
  refine wpAny_bind (wpAny_rule ?_)
  refine wpAny_bind ?_
  show wpAny _ _ (updateSeq S (·.push .none) >>= fun _ => updateSeq S (·.pop)) _ _ _
  refine wpAny_bind (wpAny_updateSeq hS₁ rfl ?_)
  have hS₂ := Heap.get?_update_self (Obj.mapSeq (·.push Value.none)) hS₁ rfl
  refine wpAny_updateSeq (hz := by seq_fits) hS₂ rfl ?_
  have hS₃ := Heap.get?_update_self (Obj.mapSeq (·.pop)) hS₂ rfl
  refine wpAny_pure ⟨plainId_quiet PySem.F.plain_extend_loop _, key _ _ _ ?_ (fun b o hb e => ?_) hS₃⟩
  · refine (W A.in1 hh).frame 0 _ _ st fun b hb o e => ?_
    have hbS : b ≠ S := fun h => hSf (h ▸ hb)
    exact (Heap.get?_update_other _ _ (Ne.symm hbS)).trans ((Heap.get?_update_other _ _ (Ne.symm hbS)).trans e)
  · exact (Heap.get?_update_other _ _ (Ne.symm hb)).trans ((Heap.get?_update_other _ _ (Ne.symm hb)).trans (keep _ _ e))
theorem collect_set {r : Addr} {ks : List Str} {R : List Value → Shared → Prop} (calm : A.handled = none) (ok : SetT prog w (!w.params.followText "set-order") r ks s.heap) (few : ks.length ≤ sizeLine)
    (fin : ∀ (g : Heap) (k : Nat) (d' : Drawn) (got : List Value) (ss : List Str), (∀ b o, s.heap.get? b = some o → g.get? b = some o) → s.heap.objs.size < g.objs.size → StrsAre got ss → ss.Perm ks → R got { s with heap := g, toks := k, drawn := d' }) :
    wpAny (model prog w) A (collect (.ref r)) R E s := by
  have lr := ok.lt
  let new : Obj := { cls := .type "list", data := .seq ([] : List Value).toArray }
  have there : (s.heap.push new).get? s.heap.objs.size = some new := Heap.get?_push_size _ rfl
  have still := ok.at (h' := s.heap.push new) fun o e => Heap.get?_push_of_some (h := s.heap) new e
  have walked := extend_set (A := A) (s := { s with heap := s.heap.push new })
    (R := fun q t => ∃ (g : Heap) (k : Nat) (d' : Drawn) (got : Array Value) (c : Nat) (ss : List Str), q = Except.ok (Flow.ret (.ref s.heap.objs.size)) ∧ t = { s with heap := g, toks := k, drawn := d' } ∧ (∀ b o, s.heap.get? b = some o → g.get? b = some o) ∧
      g.get? s.heap.objs.size = some { cls := .type "list", dict := none, data := .seq got c, slots := #[] } ∧ StrsAre got.toList ss ∧ ss.Perm ks)
    calm still s.heap.objs.size (Nat.ne_of_gt lr) (.ref s.heap.objs.size) 0 there few
    (fun g k d' got c ss keep at' all pm => ⟨g, k, d', got, c, ss, rfl, rfl, fun b o e => keep b o (Nat.ne_of_lt (Heap.lt_size e)) (Heap.get?_push_of_some _ e), at', all, pm⟩)
  have done : ∀ (g : Heap) (k : Nat) (d' : Drawn) (got : Array Value) (c : Nat) (ss : List Str), (∀ b o, s.heap.get? b = some o → g.get? b = some o) → g.get? s.heap.objs.size = some { cls := .type "list", dict := none, data := .seq got c, slots := #[] } → StrsAre got.toList ss → ss.Perm ks →
      wpAny (model prog w) A (do match (← load s.heap.objs.size).data with
        | .seq xs _ => pure xs.toList
        | _ => unsupported "internal:collect") R E { s with heap := g, toks := k, drawn := d' } := fun g k d' got c ss keep at' all pm =>
    wpAny_bind (wpAny_load at' (wpAny_pure (fin g k d' got.toList ss keep (Heap.lt_size at') all pm)))
  unfold collect
  apply wpAny_bind
  apply wpAny_runValue
  apply codeAny_builtin entry_proto_collect'
  rw [Around.under_plainId F.plain_proto_collect _]
  show wpAny _ A.in1 (newList [] >>= fun z => again (.builtin "list.__iadd__" ⟨[z, .ref r], []⟩)) _ _ s
  apply wpAny_bind
  refine wpAny_newObj_type ?_
  apply wpAny_pure
  refine ⟨plainId_quiet F.plain_list_iadd _, ?_⟩
  apply codeAny_builtin entry_list_iadd'
  rw [Around.under_plainId F.plain_list_iadd _]
  refine wpAny_mono walked (fun f t q => ?_) (fun e t q => ?_)
  · cases f with
    | done f =>
      obtain ⟨g, k, d', got, c, ss, e, rfl, keep, at', all, pm⟩ := q
      cases e
      exact done g k d' got c ss keep at' all pm
    | again c1 =>
      refine ⟨q.1, codeAny_mono q.2 fun z t2 y => ?_⟩
      obtain ⟨g, k, d', got, c, ss, rfl, rfl, keep, at', all, pm⟩ := y
      exact done g k d' got c ss keep at' all pm
  · obtain ⟨_, _, _, _, _, _, e', _⟩ := q
    cases e'
end
end L2
set_option Elab.async false
set_option linter.all false
set_option maxRecDepth 100000
set_option maxHeartbeats 4000000
namespace L2
open PySem PySem.Spec PyProof.Rows
theorem Inv.drew {X : Cx} {pins : List (Addr × Obj)} {σ : St} {H : Hp} {s : Shared} (I : Inv X pins σ H s) (d : Drawn) : Inv X pins σ H { s with drawn := d } :=
  ⟨I.ok, I.os, I.bare, I.base, I.loc, I.cell, I.free, I.freeC, I.pin, I.hok, I.len⟩
/- a set of texts -/
noncomputable def SetO (P : Program) (w : World) (a : Addr) (ks : List Str) : HO := .ext fun h => SetT P w (!w.params.followText "set-order") a ks h
theorem setO_ok {P : Program} {w : World} {a : Addr} {ks : List Str} {H : Hp} {h : Heap} (x : SetT P w (!w.params.followText "set-order") a ks h) : ObjOk P w H h a (SetO P w a ks) :=
  ⟨x, by obtain ⟨o, _, _, _, e, _⟩ := x; exact ⟨o, e⟩, fun _ _ y k => y.at k⟩
theorem call_set {X : Cx} (hc : X.calm = true) : CallR X (.type "set") (fun xs H Q => ∃ (p : Addr) (ss : List Str), xs = [.ref p] ∧ SqL X.K H p (ss.map V.str) ∧ ss.length ≤ 1000 ∧ ∀ l, H l = none → Q (.ref l) (upd H l (SetO X.prog X.w l (ss.foldl addN [])))) := by
  intro pins s σ H xs us Q I r h
  obtain ⟨p, ss, rfl, hS, hl, q⟩ := h
  obtain ⟨u, rfl, rx⟩ := vals1 r
  cases rx
  obtain ⟨its, rv, pl, _⟩ := I.list hS
  have hst := strsAre_of rv
  have hlen : its.length = ss.length := by have := rv.length; rw [List.length_map] at this; exact this.symm
  refine call_set_T (ss := ss) (I.ok.hd hc) pl.isList (by simpa using hst) (by rw [List.size_toArray]; show _ < 4096; omega) fun h' tk a1 a2 => ?_
  exact ⟨.ref s.heap.objs.size, _, I.laid (t' := tk) (fun b u hb => a2 b u (Heap.lt_size hb) hb) (Nat.le_refl _) (setO_ok a1), rfl, q _ (I.hok.fresh (Nat.le_refl _))⟩
theorem call_sorted_set {X : Cx} (hc : X.calm = true) : CallR X (.builtin "sorted") (fun xs H Q => ∃ p ks, xs = [.ref p] ∧ H p = some (SetO X.prog X.w p ks) ∧ ks.length < 64 ∧ ∀ l, H l = none → Q (.ref l) (upd H l (.lst ((sortS ks).map V.str)))) := by
  intro pins s σ H xs us Q I r h
  obtain ⟨p, ks, rfl, hp, hl, q⟩ := h
  obtain ⟨u, rfl, rx⟩ := vals1 r
  cases rx
  obtain ⟨hS, _, _⟩ := (show ObjOk X.prog X.w H s.heap p (SetO X.prog X.w p ks) from I.hok p _ hp)
  have hh : X.A.in1.handled = none := I.ok.hd hc
  refine Calls.call_function_entry kind_sorted plain_sorted entry_sorted (args_sorted1 _) ?_
  unfold Builtin.«sorted»
  refine wpAny_bind (m := checkCount "sorted" 1 1 _) (wpAny_pure ?_)
  refine wpAny_bind (collect_set (A := X.A.in1) hh hS (Nat.le_of_lt (small1000 (by omega))) fun h' tk d' acc ss hk hgr hst hpm => ?_)
  have hal : acc.length = ss.length := strs_len hst
  have hsl : ss.length = ks.length := hpm.length_eq
  refine wpAny_bind (wpAny_newList ?_ (by rw [hal]; exact Nat.le_of_lt (small1000 (by omega))))
  have hoL : (h'.push (seqObj "list" acc.toArray 0)).get? h'.objs.size = some (seqObj "list" acc.toArray 0) := Heap.get?_push_size _ rfl
  refine wpAny_bind (wpAny_holding (wpAny_call_entry slot_list_sort ⟨_, hoL, rfl⟩ entry_list_sort (list_sort_treeK strKind_oneLt hoL hst.keysOf (fun v₁ v₂ rest e => keyKind_strs (by rw [← e]; exact hst)) (by omega) fun st' a1 a2 => ⟨_, rfl, ?_⟩) (args_list_sort _)))
  refine wpAny_pure ⟨_, rfl, ?_⟩
  obtain ⟨ss', b1, b2, b3⟩ := sorted_out_str hst a1 a2
  obtain ⟨e, he⟩ := sortedHeap_at (out := (arrOf st').map (·.2)) hoL
  have es' : ss' = sortS ks := (sortS_eq b2 (sor_of b3)).trans (sortS_congr hpm)
  subst es'
  have hsz : s.heap.objs.size ≤ h'.objs.size := Nat.le_of_lt hgr
  have old : ∀ b u, s.heap.get? b = some u → (sortedHeap (h'.push (seqObj "list" acc.toArray 0)) h'.objs.size acc ((arrOf st').map (·.2))).get? b = some u := fun b u hb => by
    have hb' := hk b u hb
    have hlt := Heap.lt_size hb'
    rw [sortedHeap_old (Nat.ne_of_lt hlt) (by rw [size_push']; exact Nat.lt_succ_of_lt hlt)]
    exact Heap.get?_push_of_some _ hb'
  have J := I.laid (t' := tk) old hsz (show ObjOk X.prog X.w (upd H h'.objs.size (.lst ((sortS ks).map V.str))) _ _ (.lst ((sortS ks).map V.str)) from ⟨by rw [List.length_map, sortS_len]; exact Nat.le_of_lt (small1000 (by omega)), ((arrOf st').map (·.2)).toList, e, vals_strsAre b1, by rw [Array.toArray_toList]; exact he⟩)
  exact ⟨.ref h'.objs.size, _, J.drew d', rfl, q _ (I.hok.fresh hsz)⟩
end L2
set_option Elab.async false
set_option linter.all false
set_option maxRecDepth 100000
set_option maxHeartbeats 4000000
namespace L2
open PySem PySem.Spec PyProof.Rows
end L2
set_option Elab.async false
set_option linter.all false
set_option maxRecDepth 100000
set_option maxHeartbeats 4000000
namespace L2
open PySem PySem.Spec PyProof.Rows
theorem sub_tuple_set : isSubtype (.type "tuple") (.type "set") = pure false := by rw [isSubtype_type]; kernel_rfl
theorem sub_tuple_frozenset : isSubtype (.type "tuple") (.type "frozenset") = pure false := by rw [isSubtype_type]; kernel_rfl
section
variable {prog : Program} {w : World} {A : Around} {E : Value → Shared → Prop} {s : Shared}
set_option maxHeartbeats 3200000 in
theorem call_set_TT {l : Addr} {items : Array Value} {ss : List Str} {Q : Value → Shared → Prop} (hh : A.handled = none) (hl : s.heap.IsTuple l items) (hi : StrsAre items.toList ss) (hb : items.size + 1 < scanBound)
    (h : ∀ (h' : Heap) (tk : Nat), SetT prog w (!w.params.followText "set-order") s.heap.objs.size (ss.foldl addN []) h' → (∀ b o, b < s.heap.objs.size → s.heap.get? b = some o → h'.get? b = some o) → Q (.ref s.heap.objs.size) { s with heap := h', toks := tk }) :
    wpAny (model prog w) A (call (.type "set") [.ref l]) Q E s := by
  obtain ⟨c, tl, m1⟩ := F.called_set.mro
  have m2 := F.called_set.made
  have m3 := F.called_set.sub
  have m4 := F.called_set.notType
  have m5 := F.called_set.canCreate
  have m6 := F.typeCall_set_1 (.ref l)
  refine wpAny_call (codeAny_of_tree ?_)
  show wpAny _ _ (callAny (.type "set") _) _ _ _
  refine wpAny_pure ⟨Code.quiet_builtin _ (by decide +kernel), codeAny_builtin F.entry_type_call ?_⟩
  rw [Around.under_plain (weight_type_call_type "set" [.ref l] []) rfl]
  repeat (any_goals (first | assumption | wp_step))
  refine codeAny_mono (new_set_T (.ref l) (E := E) (R := fun z z1 => z = .ref s.heap.objs.size ∧ z1 = { s with heap := s.heap.push (setNew w) }) ⟨rfl, rfl⟩) fun r s₁ hr => ?_
  cases r with
  | error e => exact hr
  | ok fl =>
    cases fl with
    | ret z =>
      obtain ⟨rfl, rfl⟩ := hr
      have z1 : (s.heap.push (setNew w)).get? s.heap.objs.size = some (setNew w) := Heap.get?_push_size _ rfl
      have z2 : Shared.TypeIs { s with heap := s.heap.push (setNew w) } (.ref s.heap.objs.size) "set" := ⟨_, z1, rfl⟩
      have z3 := F.called_set.init.lookup
      have z4 := F.called_set.init.bind (.ref s.heap.objs.size)
      repeat (any_goals (first | assumption | wp_step))
      refine codeAny_mono (codeAny_call_builtin (R := wants (fun r s₂ => r = .none ∧ ∃ h' tk, s₂ = { s with heap := h', toks := tk } ∧ SetT prog w (!w.params.followText "set-order") s.heap.objs.size (ss.foldl addN []) h' ∧
          (∀ b o, b < s.heap.objs.size → s.heap.get? b = some o → h'.get? b = some o)) E) F.called_set.init.plain F.entry_set_init (check_set_init_1 z2 ?_)) fun r₂ s₂ hr₂ => ?_
      · obtain ⟨ol, e1, e2, nl, e3⟩ := hl
        obtain ⟨ocls, odict, odata, oslots⟩ := ol
        simp only at e2 e3
        subst e2; subst e3
        have y1 : (s.heap.push (setNew w)).get? l = some { cls := .type "tuple", dict := odict, data := .seq items nl, slots := oslots } := Heap.get?_push_of_some _ e1
        have y2 := sub_tuple_set
        have y3 := sub_tuple_frozenset
        have y4 : (Value.type "tuple" == Value.type "dict") = false := by decide
        have y5 : (s.heap.push (setNew w)).IsTuple l items := ⟨_, y1, rfl, nl, rfl⟩
        unfold Builtin.«set.__init__» noKeywords Builtin.Frozenset.updateFrom
        generalize hPI : pyIter = PI
        unfold setNew at z1 z2 y1 y5 ⊢
        wp_walk
        subst hPI
        refine wpAny_pyIter_tuple y5 ?_
        refine wpAny_bind (wpAny_runValue ?_)
        have lt : l < s.heap.objs.size := Heap.lt_size e1
        have q3 : A.in1.in1.in1.handled = none := by simp [hh]
        have ne : l ≠ (s.heap.push { cls := .type "set", dict := none, data := .set #[] 0 (.fresh 0 0 (!w.params.followText "set-order")) }).objs.size := by
          rw [Heap.size_push]; exact Nat.ne_of_lt (Nat.lt_succ_of_lt lt)
        have nf : s.heap.objs.size ∉ [(s.heap.push { cls := .type "set", dict := none, data := .set #[] 0 (.fresh 0 0 (!w.params.followText "set-order")) }).objs.size, l] := by
          rw [Heap.size_push]
          intro z
          rcases List.mem_cons.mp z with z | z
          · omega
          · rw [List.mem_singleton.mp z] at lt
            exact Nat.lt_irrefl _ lt
        have vl : ∀ (i : Nat) (v : Value), items[i]? = some v → ∃ t, v = .str ((fun i => ss.getD i "") i) t := fun i v e => strs_at hi i v (by rw [Array.getElem?_toList]; exact e)
        have es : metT (fun i => ss.getD i "") items.size = ss.foldl addN [] := by
          unfold metT
          rw [← Array.length_toList, strs_len hi, range_getD]
        refine set_loop_T (led := !w.params.followText "set-order") ((Walks.tuple q3 _ l ne items).toS) s.heap.objs.size nf (fun i => ss.getD i "") vl hb (items.size - 0) 0 _ (by omega) (Nat.zero_le _) ⟨⟨_, Heap.get?_push_size _ rfl, rfl, rfl⟩, y5.push _⟩ ?S0 ?R0
        case S0 => exact (new_T (prog := prog) (w := w) (s := s)).at fun o e => Heap.get?_push_of_some _ e
        case R0 =>
          intro s' hm hS'
          obtain ⟨h', g', d', tk', os'⟩ := s'
          have eg : g' = s.gens := hm.gens
          have ed : d' = s.drawn := hm.drawn
          have eo : os' = s.os := hm.os
          subst eg; subst ed; subst eo
          rw [es] at hS'
          refine wpAny_pure (wpAny_pure ⟨rfl, h', tk', rfl, hS', fun b o hb e => ?_⟩)
          refine hm.heap b o (fun z => ?_) (Heap.get?_push_of_some _ (Heap.get?_push_of_some _ e))
          rcases List.mem_cons.mp z with z | z
          · exact absurd z (Nat.ne_of_lt hb)
          · have z := List.mem_singleton.mp z
            rw [Heap.size_push] at z
            exact absurd z (Nat.ne_of_lt (Nat.lt_succ_of_lt hb))
      · cases r₂ with
        | error e => exact hr₂
        | ok fl₂ =>
          cases fl₂ with
          | ret r =>
            obtain ⟨rfl, h', tk, rfl, a1, a2⟩ := hr₂
            repeat (any_goals (first | assumption | wp_step))
            exact h _ _ a1 a2
          | _ => exact hr₂.elim
    | _ => exact hr.elim
end
theorem call_setTup {X : Cx} (hc : X.calm = true) : CallR X (.type "set") (fun xs H Q => ∃ (p : Addr) (ss : List Str), xs = [.ref p] ∧ SqT X.K H p (ss.map V.str) ∧ ss.length ≤ 1000 ∧ ∀ l, H l = none → Q (.ref l) (upd H l (SetO X.prog X.w l (ss.foldl addN [])))) := by
  intro pins s σ H xs us Q I r h
  obtain ⟨p, ss, rfl, hS, hl, q⟩ := h
  obtain ⟨u, rfl, rx⟩ := vals1 r
  cases rx
  obtain ⟨its, rv, pl, _⟩ := I.tuple hS
  have hst := strsAre_of rv
  have hlen : its.length = ss.length := by have := rv.length; rw [List.length_map] at this; exact this.symm
  refine call_set_TT (ss := ss) (I.ok.hd hc) pl (by simpa using hst) (by rw [List.size_toArray]; show _ < 4096; omega) fun h' tk a1 a2 => ?_
  exact ⟨.ref s.heap.objs.size, _, I.laid (t' := tk) (fun b u hb => a2 b u (Heap.lt_size hb) hb) (Nat.le_refl _) (setO_ok a1), rfl, q _ (I.hok.fresh (Nat.le_refl _))⟩
end L2
set_option Elab.async false
set_option linter.all false
set_option maxRecDepth 100000
set_option maxHeartbeats 4000000
namespace L2
open PySem PySem.Spec PyProof.Rows
noncomputable def dd (ss : List Str) : List Str := ss.foldl addN []
theorem ddf_mem : ∀ (ss acc : List Str) {x : Str}, x ∈ ss.foldl addN acc ↔ x ∈ acc ∨ x ∈ ss
  | [], acc, x => by simp
  | y :: ss, acc, x => by
    rw [List.foldl_cons, ddf_mem ss (addN acc y), mem_add, List.mem_cons, or_assoc]
theorem ddf_nd : ∀ (ss acc : List Str), acc.Nodup → (ss.foldl addN acc).Nodup
  | [], _, h => h
  | y :: ss, acc, h => ddf_nd ss (addN acc y) (add_nd h)
theorem mem_dd {ss : List Str} {x : Str} : x ∈ dd ss ↔ x ∈ ss := by unfold dd; rw [ddf_mem]; simp
theorem dd_nd (ss : List Str) : (dd ss).Nodup := ddf_nd ss [] List.nodup_nil
theorem ddf_len (ss acc : List Str) : (ss.foldl addN acc).length ≤ acc.length + ss.length := by
  induction ss generalizing acc with
  | nil => exact Nat.le_refl _
  | cons y ss ih =>
    have : (addN acc y).length ≤ acc.length + 1 := by unfold addN; split <;> simp
    have e : acc.length + (y :: ss).length = acc.length + 1 + ss.length := by rw [List.length_cons, Nat.add_assoc, Nat.add_comm 1]
    rw [e]
    exact Nat.le_trans (ih _) (Nat.add_le_add_right this _)
theorem dd_len (ss : List Str) : (dd ss).length ≤ ss.length := by have := ddf_len ss []; simpa [dd] using this
noncomputable def SS (ss : List Str) : List Str := sortS (dd ss)
theorem mem_SS {ss : List Str} {x : Str} : x ∈ SS ss ↔ x ∈ ss := sortS_mem.trans mem_dd
theorem SS_congr {a b : List Str} (h : ∀ x, x ∈ a ↔ x ∈ b) : SS a = SS b := sortS_congr ((List.perm_ext_iff_of_nodup (dd_nd a) (dd_nd b)).mpr fun x => mem_dd.trans ((h x).trans mem_dd.symm))
theorem SS_nd (ss : List Str) : (SS ss).Nodup := (sortS_perm _).nodup_iff.mpr (dd_nd ss)
theorem SS_idem (l : List Str) : SS (SS l) = SS l := SS_congr fun _ => mem_SS
theorem call_setAny {X : Cx} (hc : X.calm = true) : CallR X (.type "set") (fun xs H Q => ∃ (p : Addr) (ss : List Str), xs = [.ref p] ∧ (SqL X.K H p (ss.map V.str) ∨ SqT X.K H p (ss.map V.str)) ∧ ss.length ≤ 1000 ∧ ∀ l, H l = none → Q (.ref l) (upd H l (SetO X.prog X.w l (dd ss)))) := by
  intro pins s σ H xs us Q I r h
  obtain ⟨p, ss, e, hS | hS, hl, q⟩ := h
  · exact call_set hc pins s σ H xs us Q I r ⟨p, ss, e, hS, hl, q⟩
  · exact call_setTup hc pins s σ H xs us Q I r ⟨p, ss, e, hS, hl, q⟩
end L2
set_option Elab.async false
set_option linter.all false
set_option maxRecDepth 100000
set_option maxHeartbeats 4000000
namespace L2
open PySem PySem.Spec PyProof.Rows
end L2
set_option Elab.async false
set_option linter.all false
set_option maxRecDepth 100000
set_option maxHeartbeats 4000000
namespace L2
open PySem PySem.Spec PyProof.Rows
/- [f(x) for x in xs], with what is known of the things laid -/
theorem comp_listH {K : PySem.W.Frag} {a : Addr} {xs : List V} {fr : List (Nat × Str)} {te : TE} {σ : St} {H1 : Hp} {Q : VK} (Pv : Addr → Nat → List V → Hp → Prop) (hz : xs.length ≤ sizeLine) (hS : SqL K H1 a xs) (h0 : ∀ D, H1 D = none → Pv D 0 [] (upd H1 D (.lst []))) (hlen : ∀ D i ys H, Pv D i ys H → ys.length = i)
    (hte : ∀ (D : Addr) (i : Nat) (x : V) (ys : List V) (H3 : Hp) (Q' : VK), xs[i]? = some x → H1 D = none → Pv D i ys H3 → H3 D = some (.lst ys) → Same H1 H3 → (∀ y H5, Same H3 H5 → Pv D (i + 1) (ys ++ [y]) (upd H5 D (.lst (ys ++ [y]))) → Q' y H5) → te (some x :: frV σ fr) H3 Q')
    (hQ : ∀ D ys H2, H1 D = none → Pv D xs.length ys H2 → Same H1 H2 → H2 D = some (.lst ys) → Q (.ref D) H2) :
    compGoal (Itl K a) fr tTrue te σ H1 Q := by
  intro D hD
  refine ⟨fun i m ys H2 => m = xs.length - i ∧ i ≤ xs.length ∧ Pv D i ys H2 ∧ Same H1 H2 ∧ H2 D = some (.lst ys), ⟨xs.length, by simp, Nat.zero_le _, h0 D hD, Same.upd_new hD, upd_same⟩, ?_⟩
  rintro i m ys H2 ⟨rfl, hi, p, s2, d2⟩
  refine ⟨d2, ?_⟩
  have hS2 := s2.seq hS
  by_cases hlt : i < xs.length
  · refine .inr ⟨⟨xs, xs[i], hS2, List.getElem?_eq_getElem hlt⟩, ?_⟩
    rintro v H3 ⟨rfl, hv⟩
    refine tTrue_go (iteT ?_)
    refine hte D i v ys _ _ (hv xs hS2) hD p d2 s2 fun y H5 s5 p' => ⟨s5 _ _ d2, ?_, xs.length - (i + 1), by omega, rfl, hlt, p', (s2.trans s5).upd_of hD, upd_same⟩
    rw [hlen D i ys _ p]; omega
  · have e : i = xs.length := by omega
    subst e
    exact .inl ⟨⟨xs, hS2, Nat.le_refl _⟩, hQ D ys H2 hD p s2 d2⟩
end L2
set_option Elab.async false
set_option linter.all false
set_option maxRecDepth 100000
set_option maxHeartbeats 4000000
namespace L2
open PySem PySem.Spec PyProof.Rows
theorem ObjOk.there {P : Program} {w : World} {H : Hp} {h : Heap} {a : Addr} {o : HO} (x : ObjOk P w H h a o) : ∃ ob, h.get? a = some ob := by
  cases o with
  | lst xs => obtain ⟨_, _, _, _, e⟩ := x; exact ⟨_, e⟩
  | tup xs => obtain ⟨_, _, _, ob, e, _⟩ := x; exact ⟨_, e⟩
  | dK kvs => obtain ⟨_, _, _, _, o, _, _, e, _⟩ := x; exact ⟨_, e⟩
  | dT kvs => obtain ⟨_, _, _, _, o, _, _, e, _⟩ := x; exact ⟨_, e⟩
  | set S n => obtain ⟨o, _, _, _, e, _⟩ := x; exact ⟨_, e⟩
  | ins C dx fs => obtain ⟨_, _, _, e, _⟩ := x; exact ⟨_, e⟩
  | own y => exact x
  | xd fs => obtain ⟨_, ⟨_, _, _, e, _⟩, _⟩ := x; exact ⟨_, e⟩
  | rng lo hi => obtain ⟨_, _, _, e⟩ := x; exact ⟨_, e⟩
  | frz ob u => obtain ⟨e, _⟩ := x; exact ⟨_, e⟩
  | tbl ps => exact ⟨_, (show h.get? a = some _ from x)⟩
  | met f y => exact ⟨_, (show h.get? a = some _ from x)⟩
  | ext φ => obtain ⟨_, e, _⟩ := x; exact e
/- what stood in h is in B, but the frames; what is untracked is the same -/
noncomputable def Cov (fs : List Addr) (H : Hp) (h B : Heap) : Prop := ∀ b o, h.get? b = some o → b ∉ fs → ∃ o', B.get? b = some o' ∧ (H b = none → o' = o)
/- what is tracked stands in B -/
noncomputable def Trk (H : Hp) (h B : Heap) : Prop := ∀ b o, H b ≠ none → h.get? b = some o → B.get? b = some o
theorem Un.flown {fs : List Addr} {H H' : Hp} {h h1 h2 B : Heap} (u : Un fs [] H H' h h1) (cv : Cov fs H h B) (st : B.StaysIn h2) (sl : h1.UpToSlots h2) (fr : ∀ b ∈ fs, ∀ o, h1.get? b = some o → ∀ vs, o.data ≠ .fields vs) : Un fs [] H H' h h2 where
  keep := fun b o q n hb _ => by
    obtain ⟨o', e, z⟩ := cv b o q hb
    rw [z n] at e
    exact st _ _ e
  slot := fun b o q n hb hx => by
    obtain ⟨s0, e⟩ := u.slot b o q n hb hx
    obtain ⟨s1, e1⟩ := sl b _ e (fr b hb _ e)
    exact ⟨s1, e1⟩
  free := u.free
  there := fun b o q hx => by
    by_cases hb : b ∈ fs
    · obtain ⟨o1, e1⟩ := u.there b o q hx
      obtain ⟨_, e2⟩ := sl b o1 e1 (fr b hb o1 e1)
      exact ⟨_, e2⟩
    · obtain ⟨o', e, _⟩ := cv b o q hb
      exact ⟨o', st _ _ e⟩
  tups := u.tups
  frzs := u.frzs
  tbls := u.tbls
theorem HOk.flown {P : Program} {w : World} {H : Hp} {h1 h2 B : Heap} (x : HOk P w H h1) (ct : Trk H h1 B) (st : B.StaysIn h2) : HOk P w H h2 := fun a o e =>
  (x a o e).stay (fun b u hb q => st b u (ct b u (fun z => by
    rcases hb with rfl | hb
    · rw [z] at e; cases e
    · rw [z] at hb; cases hb) q)) (fun _ q => q) fun _ _ q => q
theorem Trk.flown {P : Program} {w : World} {H : Hp} {h1 h2 B : Heap} (x : HOk P w H h1) (ct : Trk H h1 B) (st : B.StaysIn h2) : Trk H h2 B := fun b o n q => by
  cases e : H b with
  | none => exact absurd e n
  | some u =>
    obtain ⟨ob, eb⟩ := (x b u e).there
    have e1 := ct b ob n eb
    have e2 := st _ _ e1
    rw [q] at e2
    cases e2
    exact e1
/- an exception e of the own class at C is on its way through the frames l; H, s: as it was at the call that let it out -/
structure Fly (P : Program) (w : World) (l : List Env) (H : Hp) (s : Shared) (e C : Addr) (H' : Hp) (s' : Shared) : Prop where
  os : s'.os = s.os
  bare : AllBare s'.gens
  un : Un (frs l) [] H H' s.heap s'.heap
  hok : HOk P w H' s'.heap
  fr : H' e = none
  nw : s.heap.get? e = none
  fly : ∃ (B : Heap) (a0 : Value), Heap.FlyingW B l e (.ref C) a0 s'.heap ∧ Cov (frs l) H s.heap B ∧ Trk H' s'.heap B
noncomputable def CXF (P : Program) (w : World) : CXT := fun l H s E ev s' => ∃ (e C : Addr) (H' : Hp), ev = .ref e ∧ Fly P w l H s e C H' s' ∧ E (.ref C) none H'
section
variable {X : Cx} {pins : List (Addr × Obj)} {σ : St} {Hc H' : Hp} {sc : Shared}
/- it has left this frame -/
theorem fly_out {s1 : Shared} {h2 B : Heap} {e C : Addr} {a0 : Value} (I : Inv X pins σ Hc sc) (hex : X.ex = []) (un : Un (frs X.stack) [] Hc H' sc.heap s1.heap) (os : s1.os = sc.os) (bare : AllBare s1.gens) (hok : HOk X.prog X.w H' s1.heap)
    (he : H' e = none) (nw : sc.heap.get? e = none) (fl : Heap.FlyingW B X.outer e (.ref C) a0 h2) (cv : Cov (frs X.stack) Hc sc.heap B) (ct : Trk H' s1.heap B) (sl : s1.heap.UpToSlots h2) (nf : ∀ b ∈ frs X.stack, ∀ o, s1.heap.get? b = some o → ∀ vs, o.data ≠ .fields vs) :
    Fly X.prog X.w X.outer X.H₀ X.s₀ e C H' { s1 with heap := h2 } := by
  have un2 := un.flown cv fl.1 sl nf
  have hok2 := hok.flown ct fl.1
  have J : Inv X pins σ H' { s1 with heap := h2 } := I.call' (s' := { s1 with heap := h2 }) (ch := []) os un2 hok2 bare (fun b z => nomatch z)
  have base := J.base
  rw [hex] at base
  have base0 := I.base
  rw [hex] at base0
  refine ⟨J.os, J.bare, base, J.hok, he, ?_, B, a0, fl, fun b o e hb => ?_, ct.flown hok fl.1⟩
  · cases q : X.s₀.heap.get? e with
    | none => rfl
    | some o =>
      obtain ⟨o', e'⟩ := base0.there e o q (fun z => nomatch z)
      rw [nw] at e'
      cases e'
  · obtain ⟨o1, e1⟩ := base0.there b o e (fun z => nomatch z)
    have nb : b ∉ frs X.stack := fun z => (List.mem_cons.mp (I.stkSub b z)).elim (fun z => absurd (Nat.lt_of_lt_of_le (Heap.lt_size e) I.ok.above) (by rw [z]; exact Nat.lt_irrefl _)) hb
    obtain ⟨o', e2, z⟩ := cv b o1 e1 nb
    refine ⟨o', e2, fun n => ?_⟩
    have := base0.keep b o e n hb (fun z => nomatch z)
    rw [e1] at this
    cases this
    exact z (base0.free b o e n (fun z => nomatch z))
end
section
variable {P : Program} {w : World} {K : PySem.W.Frag} {mg : Str → Option Value} {base : Heap} {N : List Str} {qual : Str} {scope : Scope} {f : Addr} {cd : Value} {A : Around} {outer : List Env} {s : Shared} {H : Hp} {E : XK}
/- a callee's exception goes on to the caller -/
theorem passF : Passes (CXF P w) (cxOf (CXF P w) P w K mg base N qual scope f cd A outer s H E) E := by
  intro pins σ Hc sc ev s1 I h
  obtain ⟨e, C, H', rfl, F, q⟩ := h
  obtain ⟨B, a0, fl, cv, ct⟩ := F.fly
  refine wpAny_leaves_onW (base := B) I.ok.frames rfl fl fun h2 fl2 sl => ?_
  have nf : ∀ b ∈ frs (cxOf (CXF P w) P w K mg base N qual scope f cd A outer s H E).stack, ∀ o, s1.heap.get? b = some o → ∀ vs, o.data ≠ .fields vs := fun b hb o e => by
    obtain ⟨_, o1, e1, d⟩ := fl.2.2.1.mem hb
    rw [e] at e1
    cases e1
    exact d
  exact ⟨e, C, H', rfl, fly_out I rfl F.un F.os F.bare F.hok F.fr F.nw fl2 cv ct sl nf, q⟩
theorem fly_made {pins : List (Addr × Obj)} {σ : St} {H1 : Hp} {s2 : Shared} {e C : Addr} {h' : Heap} {vs : List Value} (I : Inv (cxOf (CXF P w) P w K mg base N qual scope f cd A outer s H E) pins σ H1 s2) (hx : Heap.MadeExcOf s2.heap h' e (.ref C) vs) (q : E (.ref C) none H1) :
    (cxOf (CXF P w) P w K mg base N qual scope f cd A outer s H E).xe (.ref e) { s2 with heap := h' } := by
  have hB : (PySem.W.hideAll s2.heap (frs (cxOf (CXF P w) P w K mg base N qual scope f cd A outer s H E).stack)).StaysIn s2.heap := fun b o q => PySem.W.of_hideAll _ q
  refine wpAny_leaves_madeW (h := s2.heap) I.ok.frames rfl hB (PySem.W.funFrames_hide I.stack fun env he b hb => List.mem_filterMap.mpr ⟨env, he, hb⟩) hx fun h2 t fl tup tn sl => ?_
  have un : Un (frs (cxOf (CXF P w) P w K mg base N qual scope f cd A outer s H E).stack) [] H1 H1 s2.heap h' := Un.kept hx.keeps
  have he : H1 e = none := by
    cases z : H1 e with
    | none => rfl
    | some o =>
      obtain ⟨ob, eb⟩ := (I.hok e o z).there
      rw [hx.new] at eb
      cases eb
  refine ⟨e, C, H1, rfl, fly_out (s1 := { s2 with heap := h' }) I rfl un rfl I.bare (I.hok.kept hx.keeps) he hx.new fl (fun b o e hb => ⟨o, PySem.W.hideAll_get _ e hb, fun _ => rfl⟩) (fun b o n e => ?_) sl (fun b hb o e => ?_), q⟩
  · cases z : H1 b with
    | none => exact absurd z n
    | some u =>
      obtain ⟨ob, eb⟩ := (I.hok b u z).there
      have e1 := hx.keeps _ _ eb
      have e2 : h'.get? b = some o := e
      rw [e2] at e1
      cases e1
      exact PySem.W.hideAll_get _ eb fun hb => n (I.stkFree b hb)
  · obtain ⟨_, o1, e1, d⟩ := I.stack.mem hb
    have e2 : h'.get? b = some o := e
    rw [hx.keeps _ _ e1] at e2
    cases e2
    exact d
end
abbrev mroVE : List Value := [.type "ValueError", .type "Exception", .type "BaseException", .type "object"]
structure Xcl (K : PySem.W.Frag) (C : Addr) : Prop where
  q : PySem.W.excIn K C mroVE "ValueError.__new__" = true
inductive XObj (h : Heap) (C : Addr) : Prop
  | mk : ∀ bm N nm q bs hdct sn sub ab col dd k0 k1 k2 k3 k5 mN, h.get? C = some (excClassObj nm q C N bs bm hdct sn sub ab col dd k0 k1 k2 k3 k5 "ValueError.__new__") → h.Ns N mN → mN "__init__" = none → OwnTail h mroVE bm → XObj h C
theorem ff {P : Prop} (q : false = true) : P := nomatch q
theorem Xcl.obj {K : PySem.W.Frag} {h : Heap} {C : Addr} (x : Xcl K C) (X : K.In h) : XObj h C := by
  have q := x.q
  unfold PySem.W.excIn at q
  cases ho : K.lookup C with
  | none => rw [ho] at q; exact ff q
  | some o =>
    rw [ho] at q
    obtain ⟨cl, dd, data, sl⟩ := o
    cases cl with
    | type T =>
      by_cases hT : T = "type"
      · subst hT
        cases data with
        | cls cd =>
          obtain ⟨a1, a2, mro, a4, a5, a6, a7, a8, a9, a10, a11⟩ := cd
          obtain ⟨ls⟩ := sl
          cases mro with
          | nil => exact ff q
          | cons m bm =>
            cases m with
            | ref C' =>
              cases ls with
              | nil => exact ff q
              | cons k0 ls =>
              cases ls with
              | nil => exact ff q
              | cons k1 ls =>
              cases ls with
              | nil => exact ff q
              | cons k2 ls =>
              cases ls with
              | nil => exact ff q
              | cons k3 ls =>
              cases ls with
              | nil => exact ff q
              | cons k4 ls =>
              cases k4 with
              | none => exact ff q
              | some v =>
              cases v with
              | builtin n =>
                cases ls with
                | nil => exact ff q
                | cons k5 ls =>
                  cases ls with
                  | cons k6 ls => exact ff q
                  | nil =>
                    have q : (C' == C && n == "ValueError.__new__" && !a11 && PySem.W.tailIn K mroVE bm && PySem.W.nsOkIn K a4 && PySem.W.nsIn K a4 "__init__" == some none) = true := q
                    rw [Bool.and_eq_true, Bool.and_eq_true, Bool.and_eq_true, Bool.and_eq_true, Bool.and_eq_true] at q
                    obtain ⟨⟨⟨⟨⟨q1, q2⟩, q3⟩, q4⟩, q5⟩, q6⟩ := q
                    have q1 := beq_iff_eq.mp q1
                    have q2 := beq_iff_eq.mp q2
                    rw [Bool.not_eq_true'] at q3
                    have q6 := beq_iff_eq.mp q6
                    subst q1 q2 q3
                    exact ⟨bm, a4, a1, a5, a2, a6, a7, a8, a9, a10, dd, k0, k1, k2, k3, k5, _, X _ _ ho, .of_isNs (PySem.W.isNs_of_in X q5), PySem.W.nsMap_none_of_in X q5 q6, PySem.W.tail_of_in X q4⟩
              | _ => exact ff q
            | _ => exact ff q
        | _ => exact ff q
      · delta PySem.W.excIn.match_6 PySem.W.nsOkIn._sparseCasesOn_4 PySem.W.excIn._sparseCasesOn_6 at q
        dsimp only at q
        rw [dif_neg hT] at q
        exact ff q
    | _ => exact ff q
/- raise C(e, ..) -/
noncomputable def tRaise (C : Addr) (E : XK) (ta : TA) : TS := fun _ σ H => ta σ H fun vs H1 => vs.length ≤ sizeLine ∧ E (.ref C) none H1
section
variable {P : Program} {w : World} {K : PySem.W.Frag} {mg : Str → Option Value} {base : Heap} {N : List Str} {qual : Str} {scope : Scope} {f : Addr} {cd : Value} {A : Around} {outer : List Env} {s : Shared} {H : Hp} {E : XK}
theorem ps_raise {x : Str} {C : Addr} {e₀ : Expr} {rest : List Expr} {ta : TA} {np cpos pos : Pos} (c : Xcl K C) (hm : mg x = some (.ref C)) (hh : A.handled = none)
    (hg : Gl (cxOf (CXF P w) P w K mg base N qual scope f cd A outer s H E) x) (ha : PA (cxOf (CXF P w) P w K mg base N qual scope f cd A outer s H E) (e₀ :: rest) ta)
    (hdb : (x == ("__debug__" : Str)) = false := by decide)
    (he : starEach (e₀ :: rest) (cxOf (CXF P w) P w K mg base N qual scope f cd A outer s H E).env = (false, eval e₀ (cxOf (CXF P w) P w K mg base N qual scope f cd A outer s H E).env) :: starEach rest (cxOf (CXF P w) P w K mg base N qual scope f cd A outer s H E).env := by rfl)
    (hpl : (backTo cpos (starEach rest (cxOf (CXF P w) P w K mg base N qual scope f cd A outer s H E).env)).any (·.1) = false := by rfl) :
    PS (cxOf (CXF P w) P w K mg base N qual scope f cd A outer s H E) (.Raise (some (.Call (.Name x np) (e₀ :: rest) [] cpos)) none pos) (tRaise C E ta) := by
  intro pins s0 σ H0 D I h
  obtain ⟨tl, N1, nm, q, bs, hdct, sn, sub, ab, col, dd, k0, k1, k2, k3, k5, mN, hC, hN, hni, T⟩ := c.obj I.ok.mod.kin
  refine wpAny_Raise_call_subT (C := C) (nm := nm) (q := q) (N := N1) (bs := bs) (bm := tl) (hdct := hdct) (sn := sn) (sub := sub) (ab := ab) (col := col) (dd := dd) (k0 := k0) (k1 := k1) (k2 := k2) (k3 := k3) (k5 := k5)
    PySem.F.excBase_ValueError (mN := mN) (T.hasType PySem.F.excBase_ValueError.hasBase) hh ?_ hni (ld_glob I hg hm ⟨rfl, ?_⟩ hdb)
  · rw [he]
    show (false || (backTo cpos (starEach rest (cxOf (CXF P w) P w K mg base N qual scope f cd A outer s H E).env)).any (·.1)) = false
    rw [hpl]
    rfl
  · have h1 := ha cpos pins s0 σ H0 _ I h
    rw [he] at h1 ⊢
    refine Calls.evalArgs_plain (thn h1 fun us s2 z => ?_)
    obtain ⟨vs, H1, I2, r, z1, z2⟩ := z
    exact ⟨rfl, by rw [← r.length]; exact z1, I2.bk _ _ hC, hN.keeps I2.bk, T.keeps I2.bk, fun h' e hx => fly_made I2 hx z2⟩
/- THE RULE for a def that may raise -/
theorem Fun.okX {x : Str} {st : Stmt} {fd : FuncData} {ps : List Str} {k : Nat} {sp : Sp} (F : Fun K x qual st f fd) (S : FnScope N ps (defScope st)) (len : ∀ vs H Q E, sp vs H Q E → vs.length = ps.length)
    (hbody : ∀ (cdv : Value) (A : Around) (outer : List Env) (s : Shared) (H : Hp) (vs : List V) (Q : VK) (E : XK), Room k (A.deeper (envOfC qual (defScope st) s.heap.objs.size f cdv)) → sp vs H Q E →
      ∃ t, PSs (cxOf (CXF P w) P w K mg base N qual (defScope st) f cdv A outer s H E) (defBody st) t ∧ t { nx := fun _ H' => Q .non H', rt := Q } (start N vs) H) : FnOk P w K mg base (CXF P w) (k + 1) f fd ps sp := by
  obtain ⟨oc, od, kV, doc, pm, an, cdv, ct, osl, rfl, lk, hcd⟩ := F.ex
  exact fn_of lk hcd S len fun A outer s H vs Q E hr hsp => hbody cdv A outer s H vs Q E hr hsp
end
/- .. the wish may speak of the names' values -/
noncomputable def PassesX (CX : CXT) (X : Cx) (R : St → XK) : Prop := ∀ (pins : List (Addr × Obj)) (σ : St) (H : Hp) (s : Shared) (e : Value) (s' : Shared), Inv X pins σ H s → CX X.stack H s (R σ) e s' → X.xe e s'
noncomputable def tCallX (sp : Sp) (dvs : List V) (R : St → XK) (t : TA) : TE := fun σ H Q => t σ H fun vs H1 => sp (vs ++ dvs) H1 Q (R σ)
inductive tMethX_I (C : Addr) (m : Str) (sp : Sp) (dvs : List V) (R : St → XK) (t : TA) (σ : St) (Q : VK) (x : V) (H1 : Hp) : Prop
  | mk : ∀ a dx fs, x = .ref a → H1 a = some (.ins C dx fs) → fs.lookup m = none → (t σ H1 fun vs H2 => sp (x :: (vs ++ dvs)) H2 Q (R σ)) → tMethX_I C m sp dvs R t σ Q x H1
noncomputable def tMethX (C : Addr) (m : Str) (sp : Sp) (dvs : List V) (R : St → XK) (ta : TE) (t : TA) : TE := fun σ H Q => ta σ H fun x H1 => tMethX_I C m sp dvs R t σ Q x H1
section
variable {X : Cx} {CX : CXT} {k : Nat} {f C : Addr} {fd : FuncData} {ps : List Str} {sp : Sp} {dvs : List V} {ds : List Value} {R : St → XK} {x m : Str} {p pos apos : Pos} {e o : Expr} {es : List Expr} {ta : TE} {t : TA}
theorem run_fnX {pins : List (Addr × Obj)} {σ : St} {H : Hp} {s : Shared} {Q : VK} {us : List Value} {vs : List V} (F : FnOk X.prog X.w X.K X.mg X.base CX k f fd ps sp) (hr : Room k X.A) (hb : Binds X.K fd ps ds) (hd : Vals dvs ds) (hx : PassesX CX X R)
    (I : Inv X pins σ H s) (r : Vals vs us) (h : sp (vs ++ dvs) H Q (R σ)) : wpAny (model X.prog X.w) X.A (call (.ref f) us) (EP X pins σ Q) X.xe s := by
  have r2 : Vals (vs ++ dvs) (us ++ ds) := r.append hd
  have hl : (us ++ ds).length = ps.length := by rw [← r2.length]; exact F.len _ _ _ _ h
  refine wpAny_call (codeAny_mono (F.run X.A X.stack s H ⟨us, []⟩ (us ++ ds) (vs ++ dvs) Q (R σ) hr I.env0 (hb s us I.kIn hl) r2 h) fun r s' hq => ?_)
  cases r with
  | error e => exact hx pins σ H s e s' I hq
  | ok fl => cases fl with
    | ret u => exact I.after hq
    | _ => exact False.elim hq
theorem pe_callX (F : FnOk X.prog X.w X.K X.mg X.base CX k f fd ps sp) (hr : Room k X.A) (hg : Gl X x) (hm : X.mg x = some (.ref f)) (hk : PySem.W.keepIn X.K (.ref f) = true) (hb : Binds X.K fd ps ds) (hd : Vals dvs ds) (hx : PassesX CX X R)
    (ha : PA X (e :: es) t) (hdb : (x == ("__debug__" : Str)) = false := by decide) (he : starEach (e :: es) X.env = (false, eval e X.env) :: starEach es X.env := by rfl) (hpl : (backTo pos (starEach es X.env)).any (·.1) = false := by rfl) :
    PE X (.Call (.Name x p) (e :: es) [] pos) (tCallX sp dvs R t) := by
  intro pins s σ H Q I h
  refine wpAny_Call_Name_kw (ld_glob I hg hm (PySem.W.callWith_K (h₀ := X.base) I.ok.mod.kin hk (thn (ha pos pins s σ H _ I h) fun us s1 ⟨vs, H1, I1, r, q⟩ => ⟨I1.kIn, run_fnX F hr hb hd hx I1 r q⟩) he hpl) hdb)
/- o.m(e, ..) -/
theorem pe_methX {pl : Sem Bool} (he : PE X o ta) (c : Cls X.K C) (hm : Meth X.K C m f) (F : FnOk X.prog X.w X.K X.mg X.base CX k f fd ps sp) (hr : Room k X.A) (hb : Binds X.K fd ps ds) (hd : Vals dvs ds) (hx : PassesX CX X R) (ha : PA X (e :: es) t)
    (hst : starEach (e :: es) X.env = (false, eval e X.env) :: starEach es X.env := by rfl) (hpl : (backTo pos (starEach es X.env)).any (·.1) = false := by rfl)
    (ht : eval (.Call (.Attribute o m apos) (e :: es) [] pos) X.env = (do
      let ov ← eval o X.env
      standAt apos.atName
      let (f, first) ← holding [ov] (getMethod ov m pl)
      callWith pos f first (backTo pos (starEach (e :: es) X.env)) (backToKw pos (keywordEach [] X.env))) := by rfl) :
    PE X (.Call (.Attribute o m apos) (e :: es) [] pos) (tMethX C m sp dvs R ta t) := by
  intro pins s σ H Q I h
  refine PySem.W.methodCall_KW (pl := pl) (thn (he pins s σ H _ I h) fun u s1 ⟨x, H1, I1, rx, a, dx, fs, ex, ea, l, q⟩ => ?_) ht
  subst ex
  obtain rfl : u = Value.ref a := rx
  refine getmeth_ok I1 ea c hm l ?_
  refine PySem.W.callWith_K (first := [.ref a]) (h₀ := X.base) I.ok.mod.kin hm.kp (thn (ha pos pins s1 σ H1 _ I1 q) fun us s2 ⟨vs, H2, I2, r, q2⟩ => ⟨I2.kIn, ?_⟩) hst hpl
  exact run_fnX (us := .ref a :: us) (vs := .ref a :: vs) F hr hb hd hx I2 (.cons rfl r) q2
end
noncomputable def mroIn (K : PySem.W.Frag) (C D : Addr) : Bool := match K.lookup C with
  | some ⟨_, _, .cls cd, _⟩ => cd.mro.contains (.ref D)
  | _ => false
structure Sub (K : PySem.W.Frag) (C D : Addr) : Prop where
  c : Xcl K C
  s : mroIn K C D = true
theorem Sub.has {K : PySem.W.Frag} {h : Heap} {C D N : Addr} (x : Sub K C D) (X : K.In h) {nm q : Str} {bs bm : List Value} {hdct : Bool} {sn : List Str} {sub : List Value} {ab : Bool} {col : Option Bool} {dd : Option Addr} {k0 k1 k2 k3 k5 : Option Value} {newId : String}
    (hC : h.get? C = some (excClassObj nm q C N bs bm hdct sn sub ab col dd k0 k1 k2 k3 k5 newId)) : (Value.ref C :: bm).contains (.ref D) = true := by
  have s := x.s
  unfold mroIn at s
  split at s
  · rename_i ho
    have e := X _ _ ho
    rw [hC] at e
    cases e
    exact s
  · cases s
theorem matches_own {M : Model} {A : Around} {E : Value → Shared → Prop} {h : Heap} {g : Array GenState} {d : Drawn} {t : Nat} {os : OsState} {e C D N N' : Addr} {oe : Obj} {Q : Bool → Shared → Prop}
    {nm q nm' q' : Str} {bs bm bs' bm' : List Value} {hdct hdct' : Bool} {sn sn' : List Str} {sub sub' : List Value} {ab ab' : Bool} {col col' : Option Bool} {dd dd' : Option Addr} {k0 k1 k2 k3 k5 l0 l1 l2 l3 l5 : Option Value} {newId newId' : String}
    (hC : h.get? C = some (excClassObj nm q C N bs bm hdct sn sub ab col dd k0 k1 k2 k3 k5 newId)) (hD : h.get? D = some (excClassObj nm' q' D N' bs' bm' hdct' sn' sub' ab' col' dd' l0 l1 l2 l3 l5 newId')) (he : h.get? e = some oe) (hcls : oe.cls = .ref C)
    (hbase : bm'.contains (.type "BaseException") = true) (hsub : (Value.ref C :: bm).contains (.ref D) = true) (hq : Q true ⟨h, g, d, t, os⟩) : wpAny M A (excMatches (.ref e) (.ref D)) Q E ⟨h, g, d, t, os⟩ := by
  have hB : (Value.ref D :: bm').contains (.type "BaseException") = true := by rw [List.contains_cons, hbase, Bool.or_true]
  have f := tc_notTuple
  unfold excMatches
  repeat (first | (with_reducible refine wpAny_loadPart_at he ?_; rw [hcls]) | (with_reducible refine wpAny_loadPart_at hD ?_) | (with_reducible refine wpAny_isSubtype_exc hD ?_; rw [hB]) | (with_reducible refine wpAny_isSubtype_exc hC ?_; rw [hsub]) | wp_step)
  exact hq
/- a try's body: an exception comes as R says -/
noncomputable def tryCx (X : Cx) (pn : List (Addr × Obj)) (R : St → XK) : Cx := { X with pn := X.pn ++ pn, xe := fun ev s' => ∃ (σ : St) (Hc : Hp) (sc : Shared) (e C : Addr) (H' : Hp), ev = .ref e ∧ Inv X pn σ Hc sc ∧ Fly X.prog X.w X.stack Hc sc e C H' s' ∧ R σ (.ref C) none H' }
/- an except suite from which nothing is raised -/
noncomputable def hnd (X : Cx) (ev : Value) : Cx := { X with A := X.A.mark (some ev), calm := false, xe := fun _ _ => False }
section
variable {X : Cx} {pins pins' : List (Addr × Obj)} {σ : St} {H : Hp} {s : Shared} {R : St → XK}
theorem Inv.intry (I : Inv X pins σ H s) : Inv (tryCx X pins R) [] σ H s :=
  ⟨⟨I.ok.mod, I.ok.kind, I.ok.glob, I.ok.blt, I.ok.above, I.ok.inj, I.ok.has, I.ok.cab, I.ok.hd, I.ok.frames, I.ok.stk, I.ok.exf, I.ok.bs, I.ok.bsz, I.ok.noex, I.ok.exfs, I.ok.funs, I.ok.frf⟩, I.os, I.bare, I.base, I.loc, I.cell, I.free, I.freeC, fun p hp => I.pin p (by
    rw [List.append_nil] at hp
    exact hp), I.hok, I.len⟩
theorem Inv.outtry (I : Inv (tryCx X pins R) pins' σ H s) : Inv X pins σ H s :=
  ⟨⟨I.ok.mod, I.ok.kind, I.ok.glob, I.ok.blt, I.ok.above, I.ok.inj, I.ok.has, I.ok.cab, I.ok.hd, I.ok.frames, I.ok.stk, I.ok.exf, I.ok.bs, I.ok.bsz, I.ok.noex, I.ok.exfs, I.ok.funs, I.ok.frf⟩, I.os, I.bare, I.base, I.loc, I.cell, I.free, I.freeC, fun p hp => I.pin p (List.mem_append_left _ hp), I.hok, I.len⟩
theorem Inv.inhnd (I : Inv X pins σ H s) (ev : Value) : Inv (hnd X ev) pins σ H s :=
  ⟨⟨I.ok.mod, I.ok.kind, I.ok.glob, I.ok.blt, I.ok.above, I.ok.inj, I.ok.has, I.ok.cab, (fun z => nomatch z), I.ok.frames, I.ok.stk, I.ok.exf, I.ok.bs, I.ok.bsz, I.ok.noex, I.ok.exfs, I.ok.funs, I.ok.frf⟩, I.os, I.bare, I.base, I.loc, I.cell, I.free, I.freeC, I.pin, I.hok, I.len⟩
theorem Inv.outhnd {ev : Value} (ok : X.Ok) (I : Inv (hnd X ev) pins σ H s) : Inv X pins σ H s :=
  ⟨ok, I.os, I.bare, I.base, I.loc, I.cell, I.free, I.freeC, I.pin, I.hok, I.len⟩
theorem SP.outtry {D : Ends} {f : Flow} (h : SP (tryCx X pins R) pins' D f s) : SP X pins D f s := by
  cases f with
  | ret u => obtain ⟨v, σ', H', I, r, q⟩ := h; exact ⟨v, σ', H', I.outtry, r, q⟩
  | _ => obtain ⟨σ', H', I, q⟩ := h; exact ⟨σ', H', I.outtry, q⟩
theorem SP.outhnd {ev : Value} {D : Ends} {f : Flow} (ok : X.Ok) (h : SP (hnd X ev) pins D f s) : SP X pins D f s := by
  cases f with
  | ret u => obtain ⟨v, σ', H', I, r, q⟩ := h; exact ⟨v, σ', H', I.outhnd ok, r, q⟩
  | _ => obtain ⟨σ', H', I, q⟩ := h; exact ⟨σ', H', I.outhnd ok, q⟩
theorem passT {pn : List (Addr × Obj)} : PassesX (CXF X.prog X.w) (tryCx X pn R) R := by
  intro pins σ H s ev s' I h
  obtain ⟨e, C, H', rfl, F, q⟩ := h
  exact ⟨σ, H, s, e, C, H', rfl, I.outtry, F, q⟩
/- behind a callee's exception, when it has been looked at here -/
theorem Fly.inv {e C : Addr} {H' : Hp} {s1 : Shared} {B h2 : Heap} {l : List Env} {a0 : Value} (F : Fly X.prog X.w X.stack H s e C H' s1) (I : Inv X pins σ H s) (fl : Heap.FlyingW B X.stack e (.ref C) a0 s1.heap) (cv : Cov (frs X.stack) H s.heap B) (ct : Trk H' s1.heap B)
    (st : B.StaysIn h2) (sl : s1.heap.UpToSlots h2) : Inv X pins σ H' { s1 with heap := h2 } :=
  I.call' (s' := { s1 with heap := h2 }) (ch := []) F.os (F.un.flown cv st sl fun b hb o e => by
    obtain ⟨_, o1, e1, d⟩ := fl.2.2.1.mem hb
    rw [e] at e1
    cases e1
    exact d) (F.hok.flown ct st) F.bare (fun b z => nomatch z)
end
end L2
set_option Elab.async false
set_option linter.all false
set_option maxRecDepth 100000
set_option maxHeartbeats 4000000
namespace L2
open PySem PySem.Spec PyProof.Rows
/- what comes behind, not looked into (the proof's term stays small) -/
theorem seq_open {t u : TS} {D : Ends} {σ : St} {H : Hp} (h : ∀ N : St → Hp → Prop, N = u D → t { D with nx := N } σ H) : tSeq t u D σ H := h _ rfl
theorem mro_of {K : PySem.W.Frag} {C D : Addr} (e : PySem.W.mroIn K C (.ref D) = some true) : L2.mroIn K C D = true := by
  unfold PySem.W.mroIn PySem.W.clsIn at e
  unfold L2.mroIn
  cases h : K.lookup C with
  | none => rw [h] at e; cases e
  | some o =>
    rw [h] at e
    obtain ⟨c, d, dat, sl⟩ := o
    cases dat with
    | cls cd =>
      obtain ⟨cd', e1, e2⟩ := Option.bind_eq_some_iff.mp e
      cases e1
      split at e2
      · cases e2
      · exact Option.some.inj e2
    | _ => cases e
theorem FunD.okX {P : Program} {w : World} {K : PySem.W.Frag} {mg : Str → Option Value} {base : Heap} {x qual : Str} {st : Stmt} {f : Addr} {fd : FuncData} {N ps : List Str} {k : Nat} {sp : Sp} (F : FunD K x qual st f fd) (S : FnScope N ps (defScope st)) (len : ∀ vs H Q E, sp vs H Q E → vs.length = ps.length)
    (hbody : ∀ (cdv : Value) (A : Around) (outer : List Env) (s : Shared) (H : Hp) (vs : List V) (Q : VK) (E : XK), Room k (A.deeper (envOfC qual (defScope st) s.heap.objs.size f cdv)) → sp vs H Q E →
      ∃ t, PSs (cxOf (CXF P w) P w K mg base N qual (defScope st) f cdv A outer s H E) (defBody st) t ∧ t { nx := fun _ H' => Q .non H', rt := Q } (start N vs) H) : FnOk P w K mg base (CXF P w) (k + 1) f fd ps sp := by
  obtain ⟨oc, od, dV, kV, doc, pm, an, cdv, ct, osl, rfl, lk, hcd⟩ := F.ex
  exact fn_of lk hcd S len fun A outer s H vs Q E hr hsp => hbody cdv A outer s H vs Q E hr hsp
end L2
set_option Elab.async false
set_option linter.all false
set_option maxRecDepth 100000
set_option maxHeartbeats 400000
namespace L2
open PySem PySem.Spec PyProof.Rows
open PySem.Builtin PySem.Builtin.ObjectAttr PySem.Builtin.Getset_descriptor
structure XGet (K : PySem.W.Frag) (C : Addr) : Prop where
  ga : PySem.W.findIn K (.ref C) "__getattribute__" = some (some (.builtin "BaseException.__getattribute__"))
  gt : PySem.W.findIn K (.ref C) "__getattr__" = some none
  cl : PySem.W.hasDictIn K C = true
  ca : PySem.W.findIn K (.ref C) "__class__" = some (some (.builtin "object.__class__"))
  hn : PySem.W.specialIn K (.builtin "object.__class__") "__get__" = some (some (.builtin "getset_descriptor.__get__"))
  tk : PySem.W.takesIn K (.builtin "object.__class__") = some true
  mo : PySem.W.mroIn K C (.type "object") = some true
  mb : PySem.W.mroIn K C (.type "BaseException") = some true
/- an exception stands there -/
noncomputable def XAt (C e : Addr) (h : Heap) : Prop := ∃ o, h.get? e = some o ∧ o.cls = .ref C
theorem XAt.type {C e : Addr} {h : Heap} (x : XAt C e h) {M : Model} : PySem.W.Looks M h (typeOf (.ref e)) (.ref C) := by
  obtain ⟨o, h1, h2⟩ := x
  exact h2 ▸ (PySem.W.Looks.ld h1).andThen .now
section
variable {prog : Program} {w : World} {A : Around} {E : Value → Shared → Prop} {K : PySem.W.Frag} {x C : Addr} {h : Heap} {g : Array GenState} {d : Drawn} {t : Nat} {os : OsState}
theorem wpAny_ite_f {α : Type} {M : Model} {A : Around} {c : Bool} {a b : Sem α} {Q : α → Shared → Prop} {E : Value → Shared → Prop} {s : Shared} (hc : c = false) (h : wpAny M A b Q E s) : wpAny M A (if c = true then a else b) Q E s := by
  rw [hc, if_neg Bool.false_ne_true]; exact h
theorem XGet.find (Z : XGet K C) (X : K.In h) {M : Model} : PySem.W.Looks M h (Builtin.ObjectAttr.find (.ref x) (.ref C) "__class__") (.bind (.builtin "getset_descriptor.__get__") (.builtin "object.__class__")) := by
  have L1 := PySem.W.looks_findIn (M := M) X Z.ca
  have L2 : PySem.W.Looks M h (Builtin.ObjectAttr.getOf (some (.builtin "object.__class__"))) (some (.builtin "getset_descriptor.__get__")) := PySem.W.looks_specialIn X Z.hn
  have L3 : PySem.W.Looks M h (Builtin.ObjectAttr.dataDescriptor? (some (.builtin "object.__class__")) (some (.builtin "getset_descriptor.__get__"))) (some (.builtin "getset_descriptor.__get__", .builtin "object.__class__")) := (PySem.W.looks_takesIn X Z.tk).andThen .now
  exact L1.andThen (L2.andThen (L3.andThen (PySem.W.Looks.tag .now)))
theorem exc_get {R : Result → Shared → Prop} {tp : Value} (Z : XGet K C) (X : K.In h) (I : XAt C x h) (hq : R (.ok (.ret (.ref C))) ⟨h, g, d, t, os⟩) :
    codeAny (model prog w) A (.call (.builtin "getset_descriptor.__get__") ⟨[.builtin "object.__class__", .ref x, tp], []⟩) R ⟨h, g, d, t, os⟩ := by
  have L0 := I.type (M := model prog w); have L1 := PySem.W.looks_mroIn (M := model prog w) X Z.mo
  refine codeAny_call_builtin PySem.W.KF.slot_gs.plain PySem.W.KF.entry_gs (PySem.W.KF.slot_gs.check _ _ _ _ _ _ _ _ PySem.W.KF.type_class (PySem.W.KF.args_gs _ _ _) ?_)
  unfold Builtin.«getset_descriptor.__get__» descrGet; rw [PySem.W.dga_obj]; refine wpAny_bind (wpAny_pure ?_)
  unfold descrGetter descrCheckInstance descrNameAndClass isInstance; simp only [PySem.W.KF.owner_class]; repeat lk
  refine ⟨Code.quiet_builtin _ (by decide +kernel), codeAny_builtin PySem.W.KF.entry_class ?_⟩; unfold Builtin.«object.__class__» shownTypeOf; repeat lk
  exact hq
theorem exc_entry {tk : Tok} {Q : Fin → Shared → Prop} (Z : XGet K C) (X : K.In h) (I : XAt C x h) (hq : Q (.done (.ret (.ref C))) ⟨h, g, d, t, os⟩) :
    wpAny (model prog w) A (Builtin.«object.__getattribute__» ⟨[.ref x, .str "__class__" tk], []⟩) Q E ⟨h, g, d, t, os⟩ := by
  have L0 := I.type (M := model prog w)
  have L3 := Z.find (x := x) X (M := model prog w)
  refine wpAny_bind (wpAny_pure (wpAny_bind (wpAny_pure (wpAny_bind (L0.at (wpAny_bind (L3.at ?_)))))))
  show wpAny _ _ (Builtin.ObjectAttr.bindTo (.builtin "getset_descriptor.__get__") (.builtin "object.__class__") (.ref x) (.ref C)) _ _ _
  unfold Builtin.ObjectAttr.bindTo
  repeat (any_goals (first | assumption | wp_step))
  exact exc_get Z X I (wpAny_pure hq)
theorem exc_check {M : Model} {nameV : Value} {Q : Unit → Shared → Prop} (L : PySem.W.Looks M h (isInstance (.ref x) (.type "BaseException")) true) (hq : Q () ⟨h, g, d, t, os⟩) : wpAny M A (checkBuiltinCall "BaseException.__getattribute__" ⟨[.ref x, nameV], []⟩) Q E ⟨h, g, d, t, os⟩ := by
  have hk : builtinKind "BaseException.__getattribute__" = some .slot := by decide +kernel
  have hs : splitId "BaseException.__getattribute__" = some ("BaseException", "__getattribute__") := by decide +kernel
  have ha : argsOk "BaseException.__getattribute__" ⟨[.ref x, nameV], []⟩ := F.args_bexc_ga (.ref x) nameV
  have LL : PySem.W.Looks M (⟨h, g, d, t, os⟩ : Shared).heap (isInstance (.ref x) (.type "BaseException")) true := L
  have key := PySem.W.check_slot (M := M) (A := A) (E := E) (s := ⟨h, g, d, t, os⟩) (i := "BaseException.__getattribute__") (owner := "BaseException") (n := "__getattribute__") (self := .ref x) (rest := [nameV]) (kw := []) (Q := Q) hk hs LL
  exact key ha hq
theorem exc_call {tk : Tok} {R : Result → Shared → Prop} (Z : XGet K C) (X : K.In h) (I : XAt C x h) (hq : R (.ok (.ret (.ref C))) ⟨h, g, d, t, os⟩) :
    codeAny (model prog w) A (.call (.builtin "BaseException.__getattribute__") ⟨[.ref x, .str "__class__" tk], []⟩) R ⟨h, g, d, t, os⟩ := by
  have L : PySem.W.Looks (model prog w) h (isInstance (.ref x) (.type "BaseException")) true := (I.type (M := model prog w)).andThen (PySem.W.looks_mroIn (M := model prog w) X Z.mb)
  exact codeAny_call_builtin F.excAttr_ValueError.ga.plain F.entry_bexc_ga (exc_check L (exc_entry Z X I hq))
theorem exc_by {tk : Tok} {Q : Value → Shared → Prop} (Z : XGet K C) (X : K.In h) (I : XAt C x h) (hq : Q (.ref C) ⟨h, g, d, t, os⟩) :
    wpAny (model prog w) A (getAttrBy (.ref x) (.str "__class__" tk) false) Q E ⟨h, g, d, t, os⟩ := by
  have L0 := I.type (M := model prog w)
  have L1 := PySem.W.looks_findIn (M := model prog w) X Z.ga
  have L2 := PySem.W.looks_findIn (M := model prog w) X Z.gt
  have f3 := F.excAttr_ValueError.ga.bind (.ref x)
  have hx2 : (Value.builtin "BaseException.__getattribute__" == Value.builtin "object.__getattribute__") = false := by decide +kernel
  have hx1 : (onTheHeap (Value.ref C) && Value.builtin "BaseException.__getattribute__" == Value.builtin "object.__getattribute__") = false := by rw [hx2]; rfl
  refine wpAny_holding (wpAny_bind (L0.at (wpAny_bind (L1.at ?_))))
  refine wpAny_ite_f hx1 ?_
  refine wpAny_bind (L2.at ?_)
  refine wpAny_bind (wpAny_attempt (wpAny_holding ?_))
  show wpAny _ _ (boundAndCalled (.builtin "BaseException.__getattribute__") (.ref x) (.str "__class__" tk)) _ _ _
  unfold boundAndCalled
  rw [f3]
  refine wpAny_bind (wpAny_pure ?_)
  refine wpAny_call (exc_call Z X I ?_)
  exact PySem.W.handed_on rfl hq
theorem exc_class {Q : Option Value → Shared → Prop} (Z : XGet K C) (X : K.In h) (I : XAt C x h) (hq : Q (some (.ref C)) ⟨h, g, d, t + 1, os⟩) : wpAny (model prog w) A (getAttr? (.ref x) "__class__") Q E ⟨h, g, d, t, os⟩ := by
  unfold getAttr? getAttrBy?
  refine wpAny_bind (wpAny_mkText (wpAny_bind (wpAny_attempt (exc_by Z X I ?_))))
  exact wpAny_pure hq
theorem kitx_exc (Z : XGet K C) : PySem.W.KitX K (.ref x) (.ref C) (XAt C x) where
  ty := fun _ _ _ I => I.type
  it := fun _ _ X _ => by
    obtain ⟨cd, hc, _⟩ := PySem.W.any_some Z.cl
    unfold PySem.W.clsIn at hc
    split at hc
    · rename_i ho
      intro A' Q' E' s' k q; unfold isType loadHead; exact wpAny_bind (wpAny_loadPart (k _ _ (X _ _ ho)) (wpAny_pure q))
    · cases hc
  ne := fun h tp dd its n sl X htp => by
    obtain ⟨cd, hc, _⟩ := PySem.W.any_some Z.cl
    refine Bool.eq_false_iff.mpr fun q => ?_
    have e : C = tp := Value.ref.inj (beq_iff_eq.mp q)
    rw [← e] at htp; unfold PySem.W.clsIn at hc
    split at hc
    · rename_i ho
      have z := (X _ _ ho).symm.trans htp; cases z
    · cases hc
  ca := fun {prog w A E Q s} X I k => by
    obtain ⟨h, g, d, t, os⟩ := s
    exact exc_class Z X I k
end
/- an exception, held -/
noncomputable def ExcO (C e : Addr) : HO := .ext (XAt C e)
theorem excO_ok {P : Program} {w : World} {H : Hp} {h : Heap} {C e : Addr} (x : XAt C e h) : ObjOk P w H h e (ExcO C e) := ⟨x, let ⟨o, h1, _⟩ := x; ⟨o, h1⟩, fun _ _ y k => let ⟨o, h1, h2⟩ := y; ⟨o, k o h1, h2⟩⟩
theorem call_isexc {X : Cx} : CallR X (.builtin "isinstance") (fun xs H Q => ∃ e C c cv b, xs = [.ref e, c] ∧ H e = some (ExcO C e) ∧ XGet X.K C ∧ clsV c = some cv ∧ PySem.W.kitOne X.K (.ref C) cv = some b ∧ Q (.bl b) H) := by
  intro pins s σ H xs us Q I r h
  obtain ⟨e, C, c, cv, b, rfl, he, Z, hcv, hk, q⟩ := h
  obtain ⟨u, u', rfl, rx, rc⟩ := vals2 r
  have e' : u' = cv := by
    cases c with
    | ty n => cases hcv; exact rc
    | ref a => cases hcv; exact rc
    | _ => cases hcv
  subst e'
  obtain rfl : u = Value.ref e := rx
  obtain ⟨x, _⟩ := (show ObjOk X.prog X.w H s.heap e (ExcO C e) from I.hok e _ he)
  exact PySem.W.kia_one (kitx_exc Z) I.kIn x hk (by intro q; cases q) fun tk => ⟨.bl b, H, I.tok tk, rfl, q⟩
end L2
set_option Elab.async false
set_option linter.all false
set_option maxRecDepth 100000
set_option maxHeartbeats 4000000
namespace L2
open PySem PySem.Spec PyProof.Rows
section
variable {X : Cx} {pins : List (Addr × Obj)} {σ : St} {H : Hp} {s : Shared}
/- what stands there untracked, and was not there when the body began, is tracked from here on -/
theorem Inv.track {e : Addr} {o : HO} (I : Inv X pins σ H s) (hn : H e = none) (h0 : X.s₀.heap.get? e = none) (hL : e ≠ X.env.locals) (hC : ∀ x c, X.env.cells.lookup x = some c → c ≠ e) (hp : ∀ p ∈ X.pn ++ pins, p.1 ≠ e)
    (ok : ObjOk X.prog X.w (upd H e o) s.heap e o) : Inv X pins σ (upd H e o) s where
  ok := I.ok
  os := I.os
  bare := I.bare
  base := ⟨I.base.keep, I.base.slot, fun b ob q n hx => by
      have hb : b ≠ e := fun z => by rw [z, h0] at q; cases q
      rw [upd_ne hb]; exact I.base.free b ob q n hx, I.base.there,
    fun b xs q => by have := I.base.tups b xs q; rw [upd_ne (ne_of_none this hn)]; exact this,
    fun b o u q => by have := I.base.frzs b o u q; rw [upd_ne (ne_of_none this hn)]; exact this,
    fun b ps q => by obtain ⟨more, this⟩ := I.base.tbls b ps q; exact ⟨more, by rw [upd_ne (ne_of_none this hn)]; exact this⟩⟩
  loc := I.loc
  cell := I.cell
  free := by rw [upd_ne (Ne.symm hL)]; exact I.free
  freeC := fun x c q => by rw [upd_ne (hC x c q)]; exact I.freeC x c q
  pin := fun p q => by
    obtain ⟨a, b, c⟩ := I.pin p q
    exact ⟨a, by rw [upd_ne (hp p q)]; exact b, c⟩
  hok := fun b u q => by
    by_cases hb : b = e
    · subst hb; rw [upd_same] at q; cases q; exact ok
    · rw [upd_ne hb] at q
      exact (I.hok b u q).stay (fun _ _ _ z => z) (fun c z => by rw [upd_ne (ne_of_none z hn)]; exact z) fun c xs z => by rw [upd_ne (ne_of_none z hn)]; exact z
  len := I.len
/- a name is gone behind the suite -/
theorem goes_ok {M : Model} {A : Around} {E : Value → Shared → Prop} {i : Nat} {x : Str} {pos : Pos} {Q : Unit → Shared → Prop} (I : Inv X pins σ H s) (hN : X.N.Nodup) (hi : X.N[i]? = some x) (hk : X.env.scope.names.lookup x = some .local)
    (h : ∀ s', Inv X pins (σ.set i none) H s' → Q () s') : wpAny M A (do bindName X.env x .none; unbindBehindTheSuite X.env x pos) Q E s := by
  obtain ⟨m, hn, hl⟩ := id I.loc
  have hcls : (X.env.scope.kind == .class || (X.env.scope.kind == .module && X.env.locals != X.env.globals)) = false := by rw [I.ok.kind]; rfl
  have cne := I.cne
  have hiσ : i < σ.length := by rw [I.len]; exact (List.getElem?_eq_some_iff.mp hi).1
  obtain ⟨oL, _, _, hoL, _⟩ := id hn
  refine wpAny_nameGoes_keeps hk hn hcls fun h' v hn' hs => ?_
  have far : ∀ b o, X.s₀.heap.get? b = some o → b ≠ X.env.locals := fun b o e => Nat.ne_of_lt (Nat.lt_of_lt_of_le (Heap.lt_size e) I.ok.above)
  refine h _ ⟨I.ok, I.os, I.bare, ⟨fun b o e n hb hx => ?_, fun b o e n hb hx => ?_, I.base.free, fun b o e hx => ?_, I.base.tups, I.base.frzs, I.base.tbls⟩, ⟨_, hn', fun j y v' e1 e2 e3 => ?_⟩, fun y c e => ?_, I.free, I.freeC, fun p hp => ?_, fun b ob e => ?_, by simpa using I.len⟩
  · exact (hs.2 b (far b o e)).trans (I.base.keep b o e n hb hx)
  · obtain ⟨sl, e1⟩ := I.base.slot b o e n hb hx
    exact ⟨sl, (hs.2 b (far b o e)).trans e1⟩
  · obtain ⟨o', e1⟩ := I.base.there b o e hx
    exact ⟨o', (hs.2 b (far b o e)).trans e1⟩
  · have hj : j ≠ i := fun z => by
      subst z
      rw [List.getElem?_set_self hiσ] at e2
      cases e2
    rw [List.getElem?_set_ne (Ne.symm hj)] at e2
    obtain ⟨u', r', q⟩ := hl j y v' e1 e2 e3
    refine ⟨u', r', ?_⟩
    rcases q with ⟨k, e⟩ | ⟨k, c, e, z⟩
    · refine .inl ⟨k, ?_⟩
      have : y ≠ x := fun e => hj (nodup_ix hN e1 (e ▸ hi))
      simp [this, e]
    · exact .inr ⟨k, c, e, z.sameBut hs (cne y c e)⟩
  · obtain ⟨w', z⟩ := I.cell y c e
    exact ⟨w', z.sameBut hs (cne y c e)⟩
  · obtain ⟨e, n, ne, nf, d⟩ := I.pin p hp
    exact ⟨(hs.2 p.1 ne).trans e, n, ne, nf, d⟩
  · refine (I.hok b ob e).stay (fun c w' hc q => (hs.2 c ?_).trans q) (fun _ q => q) fun _ _ q => q
    rintro rfl
    rcases hc with rfl | hc
    · rw [I.free] at e; cases e
    · rw [I.free] at hc; cases hc
end
/- the ends, where the name at i is gone -/
noncomputable def unb (i : Nat) (D : Ends) : Ends := { nx := fun σ H => D.nx (σ.set i none) H, rt := D.rt, bk := fun σ H => D.bk (σ.set i none) H, ct := fun σ H => D.ct (σ.set i none) H }
noncomputable def tTryAs (i : Nat) (R : St → XK) (tb ts : TS) : TS := fun D σ H => (∀ σ' C H' e, R σ' (.ref C) none H' → H' e = none → ts (unb i D) (σ'.set i (some (.ref e))) (upd H' e (ExcO C e))) ∧ tb D σ H
theorem ps_tryAs {X : Cx} {body : List Stmt} {x n : Str} {i : Nat} {D : Addr} {b₀ : Stmt} {suite : List Stmt} {np hpos pos : Pos} {R : St → XK} {tb ts : TS} (hg : Gl X x) (hm : X.mg x = some (.ref D)) (d : Xcl X.K D) (hst : X.stack = X.env :: X.outer) (hf : X.env.frame = some X.env.locals) (hex : X.ex = [])
    (hN : X.N.Nodup) (hi : X.N[i]? = some n) (hloc : X.env.scope.names.lookup n = some .local)
    (hsub : ∀ σ C H, R σ (.ref C) none H → Sub X.K C D) (hb : ∀ pn, PSs (tryCx X pn R) body tb) (hs : ∀ ev, PSs (hnd X ev) (b₀ :: suite) ts) (hdb : (x == ("__debug__" : Str)) = false := by decide) :
    PS X (.Try body [.ExceptHandler (some (.Name x np)) (some n) (b₀ :: suite) hpos] [] [] pos) (tTryAs i R tb ts) := by
  intro pins s σ H Dd I h
  obtain ⟨hh, hq⟩ := h
  refine wpAny_Try_except (wpAny_mono (hb pins [] s σ H Dd I.intry hq) (fun f s₁ h₁ => ?_) fun ev s₁ h₁ => ?_)
  · have h2 : SP X pins Dd f s₁ := SP.outtry h₁
    cases f with
    | next => rw [arm_execs_nil]; exact wpAny_pure h2
    | _ => exact h2
  · obtain ⟨σ', Hc, sc, e, C, H', rfl, Ic, F, q⟩ := h₁
    obtain ⟨B, a0, fl, cv, ct⟩ := F.fly
    have fr : X.A.frames = some (X.env :: X.outer) := by rw [I.ok.frames, hst]
    have fl' := fl
    rw [hst] at fl'
    refine wpAny_looks_onW fr hf fl' fun h4 hheld hsm4 => ?_
    refine wpAny_landsW hheld fun h5 fl5 hsm5 => ?_
    have J5 : Inv X pins σ' H' { s₁ with heap := h5 } := F.inv (l := X.stack) Ic fl cv ct fl5.1 (hsm4.trans hsm5)
    refine wpAny_handleBy_cons (codeAny_handlers_test ?_) (by intro q; cases q)
    refine Calls.Name_function_global I.ok.kind hg (Calls.loadGlobal_global (by rw [I.ok.glob]; exact I.mod.glob.keeps J5.bk) hm ?_) hdb
    have sb := hsub σ' C H' q
    obtain ⟨bm, N, nm, qn, bs, hdct, sn, sub, ab, col, dd, k0, k1, k2, k3, k5, mN, hC, hN', hni, TL⟩ := sb.c.obj J5.kIn
    obtain ⟨bm', N', nm', qn', bs', hdct', sn', sub', ab', col', dd', l0, l1, l2, l3, l5, mN', hD, hN'', hni', TL'⟩ := d.obj J5.kIn
    obtain ⟨ob, hob, hobc⟩ := fl5.there
    refine matches_own hC hD hob hobc (TL'.hasType PySem.F.excBase_ValueError.hasBase) (sb.has J5.kIn hC) ?_
    refine codeAny_handlers_suite_as ?_
    refine lands_againW fl5 fun h6 fl6 hsm6 => ?_
    have J6 : Inv X pins σ' H' { s₁ with heap := h6 } := F.inv (l := X.stack) Ic fl cv ct fl6.1 ((hsm4.trans hsm5).trans hsm6)
    have base0 := Ic.base
    rw [hex] at base0
    have e0 : X.s₀.heap.get? e = none := by
      cases z : X.s₀.heap.get? e with
      | none => rfl
      | some o =>
        obtain ⟨o', e'⟩ := base0.there e o z (fun z => nomatch z)
        rw [F.nw] at e'
        cases e'
    obtain ⟨ob6, hob6, hobc6⟩ := fl6.there
    have eL : e ≠ X.env.locals := fun z => by
      obtain ⟨m, hn, _⟩ := Ic.loc
      obtain ⟨oL, _, _, hoL, _⟩ := hn
      rw [← z, F.nw] at hoL
      cases hoL
    have eC : ∀ x c, X.env.cells.lookup x = some c → c ≠ e := fun x c hc z => by
      obtain ⟨v, o, ho, _⟩ := Ic.cell x c hc
      rw [z, F.nw] at ho
      cases ho
    have eP : ∀ p ∈ X.pn ++ pins, p.1 ≠ e := fun p hp z => by
      obtain ⟨z1, _⟩ := Ic.pin p hp
      rw [z, F.nw] at z1
      cases z1
    have J7 : Inv X pins σ' (upd H' e (ExcO C e)) { s₁ with heap := h6 } := J6.track F.fr e0 eL eC eP (excO_ok ⟨ob6, hob6, hobc6⟩)
    refine store_ok J7 hN hi (.inl hloc) (v := .ref e) rfl (fun s2 J8 => ?_) (.inr hloc)
    refine wpAny_mono (hs (.ref e) pins s2 _ _ (unb i Dd) (J8.inhnd _) (hh σ' C H' e q F.fr)) (fun f s3 z => ?_) (fun _ _ z => z.elim)
    have z' : SP X pins (unb i Dd) f s3 := SP.outhnd I.ok z
    cases f with
    | ret u =>
      obtain ⟨v, σ2, H2, I2, r, q2⟩ := z'
      exact goes_ok I2 hN hi hloc fun s4 I4 => ⟨v, _, H2, I4, r, q2⟩
    | next =>
      obtain ⟨σ2, H2, I2, q2⟩ := z'
      exact goes_ok I2 hN hi hloc fun s4 I4 => ⟨_, H2, I4, q2⟩
    | brk =>
      obtain ⟨σ2, H2, I2, q2⟩ := z'
      exact goes_ok I2 hN hi hloc fun s4 I4 => ⟨_, H2, I4, q2⟩
    | cont =>
      obtain ⟨σ2, H2, I2, q2⟩ := z'
      exact goes_ok I2 hN hi hloc fun s4 I4 => ⟨_, H2, I4, q2⟩
end L2
set_option Elab.async false
set_option linter.all false
set_option maxRecDepth 100000
set_option maxHeartbeats 400000
namespace L2
open PySem PySem.Spec PyProof.Rows
noncomputable def keyIsN : Option Key → Value → Bool
  | none, .none => true
  | some k, v => keyIs k v
  | _, _ => false
noncomputable def keyHN (w : World) : Option Key → Int
  | none => reduceHash 0xFCA86420
  | some k => keyH w k
theorem keyIsN_none {v : Value} (h : keyIsN none v = true) : v = .none := by
  cases v <;> first | rfl | cases h
theorem hash_none {prog : Program} {w : World} {A : Around} {E : Value → Shared → Prop} {s : Shared} {Q : Int → Shared → Prop} (h : Q (reduceHash 0xFCA86420) { s with toks := s.toks + 1 }) : wpAny (model prog w) A (pyHash .none) Q E s :=
  PySem.W.pyHash_slot (T := "NoneType") rfl F.slot_NoneType_hash F.entry_NoneType_hash (F.args_NoneType_hash_1 _) (beq_builtin_none _) (.inl rfl) (wpAny_bind (wpAny_pure (wpAny_bind (wpAny_mkInt (wpAny_pure ⟨_, _, rfl, h⟩)))))
noncomputable def mixN (prog : Program) (w : World) : PySem.KeyKind prog w (Option Key) where
  is := keyIsN
  hash := keyHN w
  inj := fun v a b ha hb => by
    cases a with
    | none =>
      cases keyIsN_none ha
      cases b with
      | none => rfl
      | some k => rcases keyIs_shape (show keyIs k .none = true from hb) with ⟨i, t, _, e⟩ | ⟨x, t, _, e⟩ <;> cases e
    | some k =>
      cases b with
      | none =>
        cases keyIsN_none hb
        rcases keyIs_shape (show keyIs k .none = true from ha) with ⟨i, t, _, e⟩ | ⟨x, t, _, e⟩ <;> cases e
      | some k' => rw [(mixKind prog w).inj v k k' ha hb]
  byValue := fun k v h => by
    cases k with
    | none => cases keyIsN_none h; rfl
    | some k => exact (mixKind prog w).byValue k v h
  pyHash := fun {A E s k v Q} hv h => by
    cases k with
    | none => cases keyIsN_none hv; exact hash_none h
    | some k => exact (mixKind prog w).pyHash (k := k) hv h
  eqBool := fun {A E s a b u v Q} hu hv h => by
    cases a with
    | none =>
      cases keyIsN_none hu
      cases b with
      | none => cases keyIsN_none hv; exact SeqAt.EqAt.same _ _ _ _ _ h
      | some k =>
        have h' : Q false s := by
          have e : decide ((none : Option Key) = some k) = false := decide_eq_false (fun q => nomatch q)
          rw [e] at h; exact h
        rcases keyIs_shape (show keyIs k v = true from hv) with ⟨i, t, _, rfl⟩ | ⟨x, t, _, rfl⟩
        · exact SeqAt.EqAt.none_int _ _ _ _ _ _ h'
        · exact SeqAt.EqAt.none_str _ _ _ _ _ _ h'
    | some k =>
      cases b with
      | none =>
        cases keyIsN_none hv
        have h' : Q false s := by
          have e : decide ((some k : Option Key) = none) = false := decide_eq_false (fun q => nomatch q)
          rw [e] at h; exact h
        rcases keyIs_shape (show keyIs k u = true from hu) with ⟨i, t, _, rfl⟩ | ⟨x, t, _, rfl⟩
        · exact SeqAt.EqAt.int_none _ _ _ _ _ _ h'
        · exact SeqAt.EqAt.str_none _ _ _ _ _ _ h'
      | some k' =>
        refine (mixKind prog w).eqBool (a := k) (b := k') hu hv ?_
        have e : decide ((some k : Option Key) = some k') = decide (k = k') := by
          by_cases q : k = k'
          · rw [q, decide_eq_true rfl, decide_eq_true rfl]
          · rw [decide_eq_false q, decide_eq_false (fun z => q (Option.some.inj z))]
        rw [e] at h; exact h
  «strs» := fun k x t v h => by
    cases k with
    | none => cases keyIsN_none h
    | some k => exact (mixKind prog w).strs k x t v h
theorem mapN {P : Program} {w : World} {h : Heap} {a : Addr} {f : Key → Option Value} (m : h.MapOf (mixKind P w) a f) : ∃ g, h.MapOf (mixN P w) a g ∧ g none = none := by
  obtain ⟨o, es, ep, h1, h2, h3, h4, h5⟩ := m
  refine ⟨fun k => findBy keyIsN es k, ⟨o, es, ep, h1, h2, h3, fun e he => ?_, fun _ => rfl⟩, ?_⟩
  · obtain ⟨k, hk, hh⟩ := h4 e he
    exact ⟨some k, hk, hh⟩
  · show findBy keyIsN es none = none
    unfold findBy
    have : es.find? (fun e => keyIsN none e.key) = none := by
      rw [Array.find?_eq_none]
      intro e he q
      obtain ⟨k, hk, _⟩ := h4 e he
      have z := keyIsN_none q
      rw [z] at hk
      rcases keyIs_shape (show keyIs k .none = true from hk) with ⟨i, t, _, e⟩ | ⟨x, t, _, e⟩ <;> cases e
    simp [this]
end L2
set_option Elab.async false
set_option linter.all false
set_option maxRecDepth 100000
set_option maxHeartbeats 400000
namespace L2
open PySem PySem.Spec PyProof.Rows
theorem vals_bls {k : Bool} {bs : List Bool} {us : List Value} (r : Vals (bs.map V.bl) us) : (∀ y ∈ us, ∃ b, y = Value.bool b) ∧ us.countP (isBoolOf k) = bs.count k := by
  induction bs generalizing us with
  | nil => cases r; exact ⟨fun y hy => (List.not_mem_nil hy).elim, rfl⟩
  | cons b bs ih =>
    cases r with
    | @cons _ u _ us' r1 r2 =>
      obtain rfl : u = Value.bool b := r1
      obtain ⟨h1, h2⟩ := ih r2
      refine ⟨fun y hy => ?_, ?_⟩
      · rcases List.mem_cons.mp hy with rfl | hy
        · exact ⟨b, rfl⟩
        · exact h1 y hy
      · rw [List.countP_cons, List.count_cons, h2]
        rfl
inductive rCountB_I (x : V) (vs : List V) (H : Hp) (Q : VK) : Prop
  | mk : ∀ (l : Addr) (bs : List Bool) (k : Bool), x = .ref l → vs = [.bl k] → H l = some (.lst (bs.map V.bl)) → Q (.int (bs.count k : Nat)) H → rCountB_I x vs H Q
noncomputable def rCountB : V → List V → Hp → VK → Prop := fun x vs H Q => rCountB_I x vs H Q
theorem mt_countB {X : Cx} : MtR X "list.count" rCountB := by
  intro pins s σ H x vs v us Q I rx rv h
  obtain ⟨l, bs, k, rfl, rfl, hH, q⟩ := h
  cases rx
  obtain ⟨u, rfl, ru⟩ := vals1 rv
  obtain rfl : u = Value.bool k := ru
  obtain ⟨z, its, n, r, hl, e⟩ := I.lstM hH
  obtain ⟨h1, h2⟩ := vals_bls (k := k) r
  refine call_meets F.slot_list_count ⟨_, e, rfl⟩ F.entry_list_count (F.args_list_count_2 _ _) (SeqAt.list_countAt l its.toArray n _ _ (.bool k) (isBoolOf k)) ⟨e, fun y hy => ?_, ?_⟩
  · obtain ⟨b, rfl⟩ := h1 y (by simpa using hy)
    exact SeqAt.EqAt.bool_bool b k
  · rw [show its.toArray.toList = its from rfl, h2]
    exact ⟨.int (bs.count k : Nat), H, I.tok _, ⟨_, rfl⟩, q⟩
end L2
set_option Elab.async false
set_option linter.all false
set_option maxRecDepth 100000
set_option maxHeartbeats 400000
namespace L2
open PySem PySem.Spec PyProof.Rows
section
variable {X : Cx} {k : Nat} {f : Addr} {fd : FuncData} {ps : List Str} {sp : Sp} {dvs : List V} {ds : List Value} {E : XK} {x : Str} {p pos : Pos} {e : Expr} {es : List Expr} {t : TA}
end
end L2
set_option Elab.async false
set_option linter.all false
set_option maxRecDepth 100000
set_option maxHeartbeats 400000
namespace L2
open PySem PySem.Spec PyProof.Rows
noncomputable def rIsExc (K : PySem.W.Frag) : List V → Hp → VK → Prop := fun xs H Q => ∃ e C c cv b, xs = [.ref e, c] ∧ H e = some (ExcO C e) ∧ XGet K C ∧ clsV c = some cv ∧ PySem.W.kitOne K (.ref C) cv = some b ∧ Q (.bl b) H
theorem call_isexcK {X : Cx} (K : PySem.W.Frag) (hK : X.K = K := by rfl) : CallR X (.builtin "isinstance") (rIsExc K) := hK ▸ call_isexc
section
variable {X : Cx} {o e : Expr} {es : List Expr} {to : TE} {t : TA} {name : Str} {apos cpos : Pos} {T id : String} {r : V → List V → Hp → VK → Prop}
theorem pe_bmK (K : PySem.W.Frag) (pa : PlainAttrs T) (slot : Slot T name id) (hty : typeOf (.builtin id) = pure (.type "method_descriptor")) (hm : MtR X id r) (ho : PE X o to) (ha : PA X (e :: es) t) (hK : X.K = K := by rfl)
    (hbase : attributeBase o name X.env (eval o X.env) = eval o X.env := by rfl)
    (hfew : ((backTo cpos (starEach (e :: es) X.env)).all (fun x => !x.1) && (backToKw cpos (keywordEach [] X.env)).all (fun x => x.1.isSome)
      && decide ((e :: es).length + ([] : List Keyword).length + (if ([] : List Keyword).isEmpty then 0 else 1) < 30)) = true := by rfl)
    (hline : (apos.endLine == cpos.line) = true := by rfl) (hs : starEach (e :: es) X.env = (false, eval e X.env) :: starEach es X.env := by rfl) (hplain : (backTo cpos (starEach es X.env)).any (·.1) = false := by rfl) :
    PE X (.Call (.Attribute o name apos) (e :: es) [] cpos) (tBM K T r to t) := hK ▸ pe_bm pa slot hty hm ho ha hbase hfew hline hs hplain
end
theorem boot_VE : bootBuiltins "ValueError" = some (.type "ValueError") := by decide +kernel
noncomputable def MissV (y : V) (kvs : List (Key × V)) : Prop := y = .non ∨ ∃ k, y = kV k ∧ valV kvs k = none
inductive tMiss_I (Q : VK) (y : V) (x : V) (H2 : Hp) : Prop
  | mk : ∀ a kvs, x = .ref a → H2 a = some (.dK kvs) → MissV y kvs → Q (.bl true) H2 → tMiss_I Q y x H2
noncomputable def tMiss (ty td : TE) : TE := fun σ H Q => ty σ H fun y H1 => td σ H1 fun x H2 => tMiss_I Q y x H2
theorem pc_miss {X : Cx} {i o : Expr} {ty td : TE} (hu : X.A.units + 1 < cLine) (hi : PE X i ty) (ho : PE X o td) : PC X .NotIn i o (tMiss ty td) := by
  intro pins s σ H Q I h
  refine thn (hi pins s σ H _ I h) fun iv s1 ⟨y, H1, I1, ry, q1⟩ => thn (ho pins s1 σ H1 _ I1 q1) fun u s2 ⟨x, H2, I2, rx, a, kvs, ex, ea, m, q2⟩ => ?_
  subst ex
  obtain rfl : u = Value.ref a := rx
  rcases m with rfl | ⟨k, rfl, hk⟩
  · obtain rfl : iv = Value.none := ry
    obtain ⟨z, hd, vs, rel, dd⟩ := dk_rd I2.hok (show Rd H2 a (.dK kvs) from .inl ea)
    obtain ⟨g, hg, gn⟩ := mapN dd.mapOf
    refine wpAny_notIn_of (knd := mixN X.prog X.w) (k := none) rfl hd hg ?_
    rw [gn]
    exact ⟨.bl true, H2, I2.tok _, rfl, q2⟩
  · have g : DGet H2 a (kV k) (valV kvs k) := DGet.k (k := k) ea
    rw [hk] at g
    exact d_notIn hu I2 g ry fun s3 I3 => ⟨.bl true, H2, I3, rfl, q2⟩
end L2
set_option maxHeartbeats 4000000
namespace K24
open PySem L2
noncomputable def top (i : Nat) : Stmt := PySem.Challenge.pw_mailroom_k24_there_or_not.main.body.getD i (.Pass ⟨0, 0, 0, 0⟩)
noncomputable abbrev swall : Stmt := top 0
noncomputable abbrev scheck_there : Stmt := top 10
noncomputable abbrev scheck_new : Stmt := top 11
noncomputable abbrev sl_draws : Stmt := top 17
noncomputable abbrev sl_name_by : Stmt := top 18
noncomputable abbrev sl_pool : Stmt := top 19
noncomputable abbrev sl_called : Stmt := top 20
noncomputable abbrev sl_refused : Stmt := top 21
noncomputable abbrev sl_due : Stmt := top 22
noncomputable abbrev sl_step : Stmt := top 23
noncomputable abbrev slaw : Stmt := top 24
noncomputable abbrev sIndex_init : Stmt := inClass (top 13) 0
noncomputable abbrev sIndex_add : Stmt := inClass (top 13) 1
noncomputable abbrev sIndex_take_out : Stmt := inClass (top 13) 2
noncomputable abbrev sIndex_having : Stmt := inClass (top 13) 3
noncomputable abbrev sIndex_words : Stmt := inClass (top 13) 4
noncomputable abbrev sIndex_all_words : Stmt := inClass (top 13) 5
noncomputable abbrev sThreads_init : Stmt := inClass (top 15) 0
noncomputable abbrev sThreads_add : Stmt := inClass (top 15) 1
noncomputable abbrev sThreads_take_out : Stmt := inClass (top 15) 2
noncomputable abbrev sThreads_names : Stmt := inClass (top 15) 3
noncomputable abbrev sThreads_answers_to : Stmt := inClass (top 15) 4
noncomputable abbrev sThreads_beside : Stmt := inClass (top 15) 5
noncomputable abbrev sThreads_thread : Stmt := inClass (top 15) 6
noncomputable abbrev sThreads_threads : Stmt := inClass (top 15) 7
noncomputable abbrev sThreads_depth : Stmt := inClass (top 15) 8
noncomputable abbrev n_check_there : List Str := ["name", "there"]
theorem sc_check_there : FnScope n_check_there ["name", "there"] (defScope scheck_there) := ⟨rfl, rfl, rfl, by decide +kernel, rfl, by decide +kernel, by decide +kernel⟩
noncomputable abbrev n_check_new : List Str := ["name", "there"]
theorem sc_check_new : FnScope n_check_new ["name", "there"] (defScope scheck_new) := ⟨rfl, rfl, rfl, by decide +kernel, rfl, by decide +kernel, by decide +kernel⟩
noncomputable abbrev n_l_draws : List Str := ["_law_script", "_law_many", "_law_found", "_law_more", "_law_k", "_law_cell"]
theorem sc_l_draws : FnScope n_l_draws ["_law_script", "_law_many"] (defScope sl_draws) := ⟨rfl, rfl, rfl, by decide +kernel, rfl, by decide +kernel, by decide +kernel⟩
noncomputable abbrev n_l_name_by : List Str := ["_law_shape", "_law_k", "_law_signs", "_law_place", "_law_name", "_law_turn"]
theorem sc_l_name_by : FnScope n_l_name_by ["_law_shape", "_law_k"] (defScope sl_name_by) := ⟨rfl, rfl, rfl, by decide +kernel, rfl, by decide +kernel, by decide +kernel⟩
noncomputable abbrev n_l_pool : List Str := ["_law_draws_here", "_law_many"]
theorem sc_l_pool : FnScope n_l_pool ["_law_draws_here"] (defScope sl_pool) := ⟨rfl, rfl, rfl, by decide +kernel, rfl, by decide +kernel, by decide +kernel⟩
noncomputable abbrev n_l_called : List Str := ["_law_call", "_law_threads", "_law_index", "_law_name", "_law_bad"]
theorem sc_l_called : FnScope n_l_called ["_law_call", "_law_threads", "_law_index", "_law_name", "_law_bad"] (defScope sl_called) := ⟨rfl, rfl, rfl, by decide +kernel, rfl, by decide +kernel, by decide +kernel⟩
noncomputable abbrev n_l_refused : List Str := ["_law_call", "_law_threads", "_law_index", "_law_name", "e", "_law_others"]
theorem sc_l_refused : FnScope n_l_refused ["_law_call", "_law_threads", "_law_index", "_law_name"] (defScope sl_refused) := ⟨rfl, rfl, rfl, by decide +kernel, rfl, by decide +kernel, by decide +kernel⟩
noncomputable abbrev n_l_due : List Str := ["_law_call", "_law_name"]
theorem sc_l_due : FnScope n_l_due ["_law_call", "_law_name"] (defScope sl_due) := ⟨rfl, rfl, rfl, by decide +kernel, rfl, by decide +kernel, by decide +kernel⟩
noncomputable abbrev n_l_step : List Str := ["_law_call", "_law_threads", "_law_index", "_law_name", "_law_there", "_law_mine", "_law_found"]
theorem sc_l_step : FnScope n_l_step ["_law_call", "_law_threads", "_law_index", "_law_name", "_law_there"] (defScope sl_step) := ⟨rfl, rfl, rfl, by decide +kernel, rfl, by decide +kernel, by decide +kernel⟩
noncomputable abbrev n_law : List Str := ["_law_script", "_law_draws_here", "_law_pool_here", "_law_threads", "_law_index", "_law_there", "_law_k", "_law_name", "_law_call", "_law_other"]
theorem sc_law : FnScope n_law ["_law_script"] (defScope slaw) := ⟨rfl, rfl, rfl, by decide +kernel, rfl, by decide +kernel, by decide +kernel⟩
noncomputable abbrev n_Index_init : List Str := ["self"]
theorem sc_Index_init : FnScope n_Index_init ["self"] (defScope sIndex_init) := ⟨rfl, rfl, rfl, by decide +kernel, rfl, by decide +kernel, by decide +kernel⟩
noncomputable abbrev n_Index_add : List Str := ["self", "name", "words", "word"]
theorem sc_Index_add : FnScope n_Index_add ["self", "name", "words"] (defScope sIndex_add) := ⟨rfl, rfl, rfl, by decide +kernel, rfl, by decide +kernel, by decide +kernel⟩
noncomputable abbrev n_Index_take_out : List Str := ["self", "name", "words", "word"]
theorem sc_Index_take_out : FnScope n_Index_take_out ["self", "name"] (defScope sIndex_take_out) := ⟨rfl, rfl, rfl, by decide +kernel, rfl, by decide +kernel, by decide +kernel⟩
noncomputable abbrev n_Index_having : List Str := ["self", "word"]
theorem sc_Index_having : FnScope n_Index_having ["self", "word"] (defScope sIndex_having) := ⟨rfl, rfl, rfl, by decide +kernel, rfl, by decide +kernel, by decide +kernel⟩
noncomputable abbrev n_Index_words : List Str := ["self", "name"]
theorem sc_Index_words : FnScope n_Index_words ["self", "name"] (defScope sIndex_words) := ⟨rfl, rfl, rfl, by decide +kernel, rfl, by decide +kernel, by decide +kernel⟩
noncomputable abbrev n_Index_all_words : List Str := ["self"]
theorem sc_Index_all_words : FnScope n_Index_all_words ["self"] (defScope sIndex_all_words) := ⟨rfl, rfl, rfl, by decide +kernel, rfl, by decide +kernel, by decide +kernel⟩
noncomputable abbrev n_Threads_init : List Str := ["self"]
theorem sc_Threads_init : FnScope n_Threads_init ["self"] (defScope sThreads_init) := ⟨rfl, rfl, rfl, by decide +kernel, rfl, by decide +kernel, by decide +kernel⟩
noncomputable abbrev n_Threads_add : List Str := ["self", "name", "answers"]
theorem sc_Threads_add : FnScope n_Threads_add ["self", "name", "answers"] (defScope sThreads_add) := ⟨rfl, rfl, rfl, by decide +kernel, rfl, by decide +kernel, by decide +kernel⟩
noncomputable abbrev n_Threads_take_out : List Str := ["self", "name", "answers"]
theorem sc_Threads_take_out : FnScope n_Threads_take_out ["self", "name"] (defScope sThreads_take_out) := ⟨rfl, rfl, rfl, by decide +kernel, rfl, by decide +kernel, by decide +kernel⟩
noncomputable abbrev n_Threads_names : List Str := ["self"]
theorem sc_Threads_names : FnScope n_Threads_names ["self"] (defScope sThreads_names) := ⟨rfl, rfl, rfl, by decide +kernel, rfl, by decide +kernel, by decide +kernel⟩
noncomputable abbrev n_Threads_answers_to : List Str := ["self", "name"]
theorem sc_Threads_answers_to : FnScope n_Threads_answers_to ["self", "name"] (defScope sThreads_answers_to) := ⟨rfl, rfl, rfl, by decide +kernel, rfl, by decide +kernel, by decide +kernel⟩
noncomputable abbrev n_Threads_beside : List Str := ["self", "name", "near", "answers"]
theorem sc_Threads_beside : FnScope n_Threads_beside ["self", "name"] (defScope sThreads_beside) := ⟨rfl, rfl, rfl, by decide +kernel, rfl, by decide +kernel, by decide +kernel⟩
noncomputable abbrev n_Threads_thread : List Str := ["self", "name", "reached", "waiting", "here", "near"]
theorem sc_Threads_thread : FnScope n_Threads_thread ["self", "name"] (defScope sThreads_thread) := ⟨rfl, rfl, rfl, by decide +kernel, rfl, by decide +kernel, by decide +kernel⟩
noncomputable abbrev n_Threads_threads : List Str := ["self", "told", "met", "name", "whole", "near"]
theorem sc_Threads_threads : FnScope n_Threads_threads ["self"] (defScope sThreads_threads) := ⟨rfl, rfl, rfl, by decide +kernel, rfl, by decide +kernel, by decide +kernel⟩
noncomputable abbrev n_Threads_depth : List Str := ["self", "name", "met", "above"]
theorem sc_Threads_depth : FnScope n_Threads_depth ["self", "name"] (defScope sThreads_depth) := ⟨rfl, rfl, rfl, by decide +kernel, rfl, by decide +kernel, by decide +kernel⟩
set_option genInjectivity false in
structure Adr where
  f_wall : Addr
  f_check_there : Addr
  f_check_new : Addr
  f_l_draws : Addr
  f_l_name_by : Addr
  f_l_pool : Addr
  f_l_called : Addr
  f_l_refused : Addr
  f_l_due : Addr
  f_l_step : Addr
  f_law : Addr
  f_Index_init : Addr
  f_Index_add : Addr
  f_Index_take_out : Addr
  f_Index_having : Addr
  f_Index_words : Addr
  f_Index_all_words : Addr
  f_Threads_init : Addr
  f_Threads_add : Addr
  f_Threads_take_out : Addr
  f_Threads_names : Addr
  f_Threads_answers_to : Addr
  f_Threads_beside : Addr
  f_Threads_thread : Addr
  f_Threads_threads : Addr
  f_Threads_depth : Addr
  C_Index : Addr
  C_Threads : Addr
  C_MailError : Addr
  C_NoName : Addr
  C_NoWord : Addr
  C_NoLetter : Addr
  C_NoRule : Addr
  C_NoParcel : Addr
  C_NoRow : Addr
  dummy : Nat := 0
structure Txt (K : PySem.W.Frag) (mg : Str → Option Value) (a : Adr) : Prop where
  m_wall : mg "_wall" = some (.ref a.f_wall)
  m_check_there : mg "check_there" = some (.ref a.f_check_there)
  m_check_new : mg "check_new" = some (.ref a.f_check_new)
  m_l_draws : mg "_law_draws" = some (.ref a.f_l_draws)
  m_l_name_by : mg "_law_name_by" = some (.ref a.f_l_name_by)
  m_l_pool : mg "_law_pool" = some (.ref a.f_l_pool)
  m_l_called : mg "_law_called" = some (.ref a.f_l_called)
  m_l_refused : mg "_law_refused" = some (.ref a.f_l_refused)
  m_l_due : mg "_law_due" = some (.ref a.f_l_due)
  m_l_step : mg "_law_step" = some (.ref a.f_l_step)
  m_law : mg "law" = some (.ref a.f_law)
  b_len : mg "len" = none
  b_range : mg "range" = none
  b_isinstance : mg "isinstance" = none
  b_str : mg "str" = none
  b_int : mg "int" = none
  b_bool : mg "bool" = none
  b_list : mg "list" = none
  b_set : mg "set" = none
  b_sorted : mg "sorted" = none
  mc_Index : mg "Index" = some (.ref a.C_Index)
  c_Index : Cls K a.C_Index
  k_Index : Mk K a.C_Index a.f_Index_init
  M_Index_add : Meth K a.C_Index "add" a.f_Index_add
  M_Index_take_out : Meth K a.C_Index "take_out" a.f_Index_take_out
  M_Index_having : Meth K a.C_Index "having" a.f_Index_having
  M_Index_words : Meth K a.C_Index "words" a.f_Index_words
  M_Index_all_words : Meth K a.C_Index "all_words" a.f_Index_all_words
  n_Index_entries : NoAttr K a.C_Index "entries"
  n_Index_bearers : NoAttr K a.C_Index "bearers"
  mc_Threads : mg "Threads" = some (.ref a.C_Threads)
  c_Threads : Cls K a.C_Threads
  k_Threads : Mk K a.C_Threads a.f_Threads_init
  M_Threads_add : Meth K a.C_Threads "add" a.f_Threads_add
  M_Threads_take_out : Meth K a.C_Threads "take_out" a.f_Threads_take_out
  M_Threads_names : Meth K a.C_Threads "names" a.f_Threads_names
  M_Threads_answers_to : Meth K a.C_Threads "answers_to" a.f_Threads_answers_to
  M_Threads_beside : Meth K a.C_Threads "beside" a.f_Threads_beside
  M_Threads_thread : Meth K a.C_Threads "thread" a.f_Threads_thread
  M_Threads_threads : Meth K a.C_Threads "threads" a.f_Threads_threads
  M_Threads_depth : Meth K a.C_Threads "depth" a.f_Threads_depth
  n_Threads_links : NoAttr K a.C_Threads "links"
  n_Threads_replies : NoAttr K a.C_Threads "replies"
  mx_MailError : mg "MailError" = some (.ref a.C_MailError)
  x_MailError : Xcl K a.C_MailError
  mx_NoName : mg "NoName" = some (.ref a.C_NoName)
  x_NoName : Xcl K a.C_NoName
  s_NoName_MailError : mroIn K a.C_NoName a.C_MailError = true
  mx_NoWord : mg "NoWord" = some (.ref a.C_NoWord)
  mx_NoLetter : mg "NoLetter" = some (.ref a.C_NoLetter)
  mx_NoRule : mg "NoRule" = some (.ref a.C_NoRule)
  mx_NoParcel : mg "NoParcel" = some (.ref a.C_NoParcel)
  mx_NoRow : mg "NoRow" = some (.ref a.C_NoRow)
  xg_NoName : XGet K a.C_NoName
  ki_NoName_NoWord : PySem.W.kitOne K (.ref a.C_NoName) (.ref a.C_NoWord) = some false
  ki_NoName_NoLetter : PySem.W.kitOne K (.ref a.C_NoName) (.ref a.C_NoLetter) = some false
  ki_NoName_NoRule : PySem.W.kitOne K (.ref a.C_NoName) (.ref a.C_NoRule) = some false
  ki_NoName_NoName : PySem.W.kitOne K (.ref a.C_NoName) (.ref a.C_NoName) = some true
  ki_NoName_ValueError : PySem.W.kitOne K (.ref a.C_NoName) (.type "ValueError") = some true
  ki_NoName_NoParcel : PySem.W.kitOne K (.ref a.C_NoName) (.ref a.C_NoParcel) = some false
  ki_NoName_NoRow : PySem.W.kitOne K (.ref a.C_NoName) (.ref a.C_NoRow) = some false
  b_ValueError : mg "ValueError" = none
  top_ : True
structure Funs (K : PySem.W.Frag) (a : Adr) : Prop where
  F_wall : ∃ fd, Fun K "_wall" "_wall" swall a.f_wall fd ∧ Binds K fd ["k"] []
  F_check_there : ∃ fd, Fun K "check_there" "check_there" scheck_there a.f_check_there fd ∧ Binds K fd ["name", "there"] []
  F_check_new : ∃ fd, Fun K "check_new" "check_new" scheck_new a.f_check_new fd ∧ Binds K fd ["name", "there"] []
  F_l_draws : ∃ fd, Fun K "_law_draws" "_law_draws" sl_draws a.f_l_draws fd ∧ Binds K fd ["_law_script", "_law_many"] []
  F_l_name_by : ∃ fd, Fun K "_law_name_by" "_law_name_by" sl_name_by a.f_l_name_by fd ∧ Binds K fd ["_law_shape", "_law_k"] []
  F_l_pool : ∃ fd, Fun K "_law_pool" "_law_pool" sl_pool a.f_l_pool fd ∧ Binds K fd ["_law_draws_here"] []
  F_l_called : ∃ fd, Fun K "_law_called" "_law_called" sl_called a.f_l_called fd ∧ Binds K fd ["_law_call", "_law_threads", "_law_index", "_law_name", "_law_bad"] []
  F_l_refused : ∃ fd, Fun K "_law_refused" "_law_refused" sl_refused a.f_l_refused fd ∧ Binds K fd ["_law_call", "_law_threads", "_law_index", "_law_name"] []
  F_l_due : ∃ fd, Fun K "_law_due" "_law_due" sl_due a.f_l_due fd ∧ Binds K fd ["_law_call", "_law_name"] []
  F_l_step : ∃ fd, Fun K "_law_step" "_law_step" sl_step a.f_l_step fd ∧ Binds K fd ["_law_call", "_law_threads", "_law_index", "_law_name", "_law_there"] []
  F_law : ∃ fd, Fun K "law" "law" slaw a.f_law fd ∧ Binds K fd ["_law_script"] []
  F_Index_init : ∃ fd, Fun K "__init__" "Index.__init__" sIndex_init a.f_Index_init fd ∧ Binds K fd ["self"] []
  F_Index_add : ∃ fd, Fun K "add" "Index.add" sIndex_add a.f_Index_add fd ∧ Binds K fd ["self", "name", "words"] []
  F_Index_take_out : ∃ fd, Fun K "take_out" "Index.take_out" sIndex_take_out a.f_Index_take_out fd ∧ Binds K fd ["self", "name"] []
  F_Index_having : ∃ fd, Fun K "having" "Index.having" sIndex_having a.f_Index_having fd ∧ Binds K fd ["self", "word"] []
  F_Index_words : ∃ fd, Fun K "words" "Index.words" sIndex_words a.f_Index_words fd ∧ Binds K fd ["self", "name"] []
  F_Index_all_words : ∃ fd, Fun K "all_words" "Index.all_words" sIndex_all_words a.f_Index_all_words fd ∧ Binds K fd ["self"] []
  F_Threads_init : ∃ fd, Fun K "__init__" "Threads.__init__" sThreads_init a.f_Threads_init fd ∧ Binds K fd ["self"] []
  F_Threads_add : ∃ fd, FunD K "add" "Threads.add" sThreads_add a.f_Threads_add fd ∧ Binds K fd ["self", "name", "answers"] [] ∧ (∃ ds, Vals [.str ""] ds ∧ Binds K fd ["self", "name", "answers"] ds)
  F_Threads_take_out : ∃ fd, Fun K "take_out" "Threads.take_out" sThreads_take_out a.f_Threads_take_out fd ∧ Binds K fd ["self", "name"] []
  F_Threads_names : ∃ fd, Fun K "names" "Threads.names" sThreads_names a.f_Threads_names fd ∧ Binds K fd ["self"] []
  F_Threads_answers_to : ∃ fd, Fun K "answers_to" "Threads.answers_to" sThreads_answers_to a.f_Threads_answers_to fd ∧ Binds K fd ["self", "name"] []
  F_Threads_beside : ∃ fd, Fun K "beside" "Threads.beside" sThreads_beside a.f_Threads_beside fd ∧ Binds K fd ["self", "name"] []
  F_Threads_thread : ∃ fd, Fun K "thread" "Threads.thread" sThreads_thread a.f_Threads_thread fd ∧ Binds K fd ["self", "name"] []
  F_Threads_threads : ∃ fd, Fun K "threads" "Threads.threads" sThreads_threads a.f_Threads_threads fd ∧ Binds K fd ["self"] []
  F_Threads_depth : ∃ fd, Fun K "depth" "Threads.depth" sThreads_depth a.f_Threads_depth fd ∧ Binds K fd ["self", "name"] []
inductive spThereD_I (vs : List V) (H : Hp) (Q : VK) : Prop
  | mk : ∀ (nm : Str) (L : Addr) (kvs : List (Key × V)) (v : V), vs = [.str nm, .ref L] → H L = some (.dK kvs) → valV kvs (Sum.inr nm) = some v → Q .non H → spThereD_I vs H Q
noncomputable def spThereD : Sp := fun vs H Q _ => spThereD_I vs H Q
inductive spNewD_I (vs : List V) (H : Hp) (Q : VK) : Prop
  | mk : ∀ (nm : Str) (L : Addr) (kvs : List (Key × V)), vs = [.str nm, .ref L] → H L = some (.dK kvs) → valV kvs (Sum.inr nm) = none → Q .non H → spNewD_I vs H Q
noncomputable def spNewD : Sp := fun vs H Q _ => spNewD_I vs H Q
theorem kitSS {K : PySem.W.Frag} : PySem.W.kitOne K (.type "str") (.type "str") = some true := by unfold PySem.W.kitOne; rw [if_pos (beq_self_eq_true _)]
section
variable {P : Program} {w : World} {K : PySem.W.Frag} {mg : Str → Option Value} {base : Heap} {a : Adr}
theorem ok_there {fd : FuncData} (F : Fun K "check_there" "check_there" scheck_there a.f_check_there fd) (T : Txt K mg a) : FnOk P w K mg base CX0 1 a.f_check_there fd ["name", "there"] spThereD := by
  refine F.ok sc_check_there (fun vs H Q E h => ?_) (fun cdv A outer st H vs Q E hr h => ?_)
  · obtain ⟨nm, L, kvs, v, rfl, _⟩ := h; rfl
  · obtain ⟨nm, L, kvs, v, rfl, hL, hv, k⟩ := h
    have hu := hu_of hr
    refine ⟨_, (pss_one (ps_if (pt_cmp (pc_dnotin hu (pv 0) (pv 1))) (pss_one ps_never) pss_nil)), ?_⟩
    refine ⟨_, rfl, _, rfl, L, _, rfl, DGet.k (k := Sum.inr nm) hL, _, rfl, ?_⟩
    rw [hv]
    exact iteF k
theorem ok_new {fd : FuncData} (F : Fun K "check_new" "check_new" scheck_new a.f_check_new fd) (T : Txt K mg a) : FnOk P w K mg base CX0 1 a.f_check_new fd ["name", "there"] spNewD := by
  refine F.ok sc_check_new (fun vs H Q E h => ?_) (fun cdv A outer st H vs Q E hr h => ?_)
  · obtain ⟨nm, L, kvs, rfl, _⟩ := h; rfl
  · obtain ⟨nm, L, kvs, rfl, hL, hv, k⟩ := h
    have hu := hu_of hr
    refine ⟨_, (pss_one (ps_if (PW.pt (pw_or (pt_not (pt_val (pe_callB call_isinst rfl T.b_isinstance PyProof.Rows.boot_isinstance (pac (pv 0) (pac (pe_bltn (v := .ty "str") rfl T.b_str PyProof.Rows.boot_str rfl) pa_nil))))) (pw_or1 (pt_cmp (pc_din hu (pv 0) (pv 1)))))) (pss_one ps_never) pss_nil)), ?_⟩
    refine ⟨_, rfl, _, _, _, _, _, rfl, rfl, TyOf.str nm, kitSS, _, rfl, iteF ?_⟩
    refine ⟨_, rfl, _, rfl, L, _, rfl, DGet.k (k := Sum.inr nm) hL, _, rfl, ?_⟩
    rw [hv]
    exact iteF k
end
inductive spLaw_I (K : PySem.W.Frag) (vs : List V) (H : Hp) (Q : VK) : Prop
  | mk : ∀ (a : Addr) (ns : List Int), vs = [.ref a] → SqL K H a (ns.map V.int) → ns.length ≤ 63 → (∀ H', Q (.bl true) H') → spLaw_I K vs H Q
noncomputable def spLaw (K : PySem.W.Frag) : Sp := fun vs H Q _ => spLaw_I K vs H Q
theorem dec_str {a b : Str} : decide (V.str a = V.str b) = decide (a = b) := by
  by_cases h : a = b
  · rw [h, decide_eq_true rfl, decide_eq_true rfl]
  · rw [decide_eq_false h, decide_eq_false fun z => h (V.str.inj z)]
section
variable {α : Type}
noncomputable def dG (f : α → Str) (g : α → V) (xs : List α) : List (Key × V) := xs.map fun r => (Sum.inr (f r), g r)
theorem dG_none {f : α → Str} {g : α → V} {n : Str} : ∀ {xs : List α}, ¬ n ∈ xs.map f → valV (dG f g xs) (Sum.inr n) = none
  | [], _ => rfl
  | r :: xs, h => by
    show valV ((Sum.inr (f r), g r) :: dG f g xs) (Sum.inr n) = _
    rw [valV_neg fun e => h (by rw [← Sum.inr.inj e]; exact List.mem_cons_self)]
    exact dG_none fun z => h (List.mem_cons_of_mem _ z)
theorem dG_some {f : α → Str} {g : α → V} {r : α} : ∀ {xs : List α}, (xs.map f).Nodup → r ∈ xs → valV (dG f g xs) (Sum.inr (f r)) = some (g r)
  | [], _, h => nomatch h
  | y :: xs, nd, h => by
    rw [List.map_cons, List.nodup_cons] at nd
    show valV ((Sum.inr (f y), g y) :: dG f g xs) (Sum.inr (f r)) = _
    rcases List.mem_cons.mp h with rfl | h
    · exact valV_pos rfl
    · rw [valV_neg fun e => nd.1 (by rw [Sum.inr.inj e]; exact List.mem_map.mpr ⟨r, h, rfl⟩)]
      exact dG_some nd.2 h
theorem dG_put {f : α → Str} {g : α → V} {xs : List α} {n : Str} {v : V} (r : α) (h : ¬ n ∈ xs.map f) (e1 : f r = n) (e2 : g r = v) : putK (dG f g xs) (Sum.inr n) v = dG f g (xs ++ [r]) := by
  rw [putK_new _ (dG_none h)]
  simp [dG, e1, e2]
theorem dG_drop (f : α → Str) (g : α → V) (n : Str) : ∀ xs : List α, dropK (dG f g xs) (Sum.inr n) = dG f g (xs.filter fun r => decide (f r ≠ n))
  | [] => rfl
  | r :: xs => by
    show dropK ((Sum.inr (f r), g r) :: dG f g xs) (Sum.inr n) = _
    by_cases h : f r = n
    · rw [dropK_pos (by rw [h]), dG_drop f g n xs]
      simp [List.filter_cons, h]
    · rw [dropK_neg (fun e => h (Sum.inr.inj e)), dG_drop f g n xs]
      simp [List.filter_cons, h, dG]
theorem dG_len (f : α → Str) (g : α → V) (xs : List α) : (dG f g xs).length = xs.length := List.length_map _
theorem dG_keys (f : α → Str) (g : α → V) (xs : List α) : (dG f g xs).map (fun kv => kV kv.1) = (xs.map f).map V.str := by
  unfold dG
  rw [List.map_map, List.map_map]
  rfl
end
noncomputable abbrev NW := List (Str × List Str)
noncomputable def bear (R : NW) (t : Str) : List Str := (R.filter fun r => decide (t ∈ r.2)).map (·.1)
theorem bear_snoc (R : NW) (n : Str) (ws : List Str) (t : Str) : bear (R ++ [(n, ws)]) t = bear R t ++ if t ∈ ws then [n] else [] := by
  unfold bear
  rw [List.filter_append, List.map_append]
  by_cases h : t ∈ ws <;> simp [List.filter_cons, h]
theorem bear_mem {R : NW} {t n : Str} : n ∈ bear R t ↔ ∃ ws, (n, ws) ∈ R ∧ t ∈ ws := by
  unfold bear
  constructor
  · intro h
    obtain ⟨r, hr, rfl⟩ := List.mem_map.mp h
    exact ⟨r.2, (List.mem_filter.mp hr).1, of_decide_eq_true (List.mem_filter.mp hr).2⟩
  · rintro ⟨ws, h1, h2⟩
    exact List.mem_map.mpr ⟨(n, ws), List.mem_filter.mpr ⟨h1, decide_eq_true h2⟩, rfl⟩
theorem bear_sub {R : NW} {t n : Str} (h : n ∈ bear R t) : n ∈ R.map (·.1) := let ⟨ws, h1, _⟩ := bear_mem.mp h; List.mem_map.mpr ⟨(n, ws), h1, rfl⟩
theorem bear_len (R : NW) (t : Str) : (bear R t).length ≤ R.length := by unfold bear; rw [List.length_map]; exact List.length_filter_le _ _
noncomputable def noN (R : NW) (n : Str) : NW := R.filter fun r => decide (r.1 ≠ n)
theorem bear_noN (R : NW) (n t : Str) : bear (noN R n) t = (bear R t).filter fun m => decide (m ≠ n) := by
  unfold bear noN
  rw [List.filter_map, List.filter_filter, List.filter_filter]
  congr 1
  refine List.filter_congr fun r _ => ?_
  show (decide (t ∈ r.2) && decide (r.1 ≠ n)) = (decide (r.1 ≠ n) && decide (t ∈ r.2))
  rw [Bool.and_comm]
theorem nw_one {R : NW} (nd : (R.map (·.1)).Nodup) {n : Str} {a b : List Str} (h1 : (n, a) ∈ R) (h2 : (n, b) ∈ R) : a = b := by
  induction R with
  | nil => cases h1
  | cons r R ih =>
    rw [List.map_cons, List.nodup_cons] at nd
    rcases List.mem_cons.mp h1 with e1 | h1
    · rcases List.mem_cons.mp h2 with e2 | h2
      · rw [← e2] at e1; exact (Prod.mk.inj e1).2
      · exact absurd (List.mem_map.mpr ⟨_, h2, by rw [← e1]⟩) nd.1
    · rcases List.mem_cons.mp h2 with e2 | h2
      · exact absurd (List.mem_map.mpr ⟨_, h1, by rw [← e2]⟩) nd.1
      · exact ih nd.2 h1 h2
/- bearers but of one word -/
noncomputable def putB (bf : Str → List Str) (w : Str) (ys : List Str) : Str → List Str := fun t => if t = w then ys else bf t
theorem putB_same (bf : Str → List Str) (w : Str) (ys : List Str) : putB bf w ys w = ys := if_pos rfl
theorem putB_ne {bf : Str → List Str} {w t : Str} {ys : List Str} (h : t ≠ w) : putB bf w ys t = bf t := if_neg h
noncomputable abbrev brK (bs : List (Str × Addr)) : List (Key × V) := dG (·.1) (fun b => V.ref b.2) bs
structure BD (H : Hp) (E B : Addr) (bs : List (Str × Addr)) (bf : Str → List Str) (W : List Str) : Prop where
  nd : (bs.map (·.1)).Nodup
  nda : (bs.map (·.2)).Nodup
  at_ : ∀ p ∈ bs, H p.2 = some (.dK (keysT (bf p.1))) ∧ p.2 ≠ E ∧ p.2 ≠ B ∧ bf p.1 ≠ [] ∧ p.1 ∈ W
  no_ : ∀ t, ¬ t ∈ bs.map (·.1) → bf t = []
theorem BD.len {H : Hp} {E B : Addr} {bs : List (Str × Addr)} {bf : Str → List Str} {W : List Str} (h : BD H E B bs bf W) : bs.length ≤ W.length := by
  have := nodup_le h.nd fun m hm => by
    obtain ⟨p, hp, rfl⟩ := List.mem_map.mp hm
    exact (h.at_ p hp).2.2.2.2
  rw [List.length_map] at this
  exact this
theorem BD.congr {H H' : Hp} {E B : Addr} {bs : List (Str × Addr)} {bf bf' : Str → List Str} {W : List Str} (h : BD H E B bs bf W) (k : ∀ p ∈ bs, ∀ o, H p.2 = some o → H' p.2 = some o) (e : ∀ t, bf' t = bf t) : BD H' E B bs bf' W :=
  ⟨h.nd, h.nda, fun p hp => by rw [e]; exact ⟨k p hp _ (h.at_ p hp).1, (h.at_ p hp).2⟩, fun t ht => by rw [e]; exact h.no_ t ht⟩
theorem map_inj_of {α β : Type} {f : α → β} {xs : List α} (nd : (xs.map f).Nodup) {a b : α} (ha : a ∈ xs) (hb : b ∈ xs) (e : f a = f b) : a = b := by
  induction xs with
  | nil => cases ha
  | cons x xs ih =>
    rw [List.map_cons, List.nodup_cons] at nd
    rcases List.mem_cons.mp ha with h1 | h1
    · rcases List.mem_cons.mp hb with h2 | h2
      · rw [h1, h2]
      · exact absurd (List.mem_map.mpr ⟨b, h2, by rw [← e, h1]⟩) nd.1
    · rcases List.mem_cons.mp hb with h2 | h2
      · exact absurd (List.mem_map.mpr ⟨a, h1, by rw [e, h2]⟩) nd.1
      · exact ih nd.2 h1 h2
theorem snoc_nodup {α : Type} {xs : List α} {a : α} (h : xs.Nodup) (n : ¬ a ∈ xs) : (xs ++ [a]).Nodup := by
  rw [List.nodup_append]
  exact ⟨h, List.pairwise_singleton _ _, fun x hx y hy e => n (by rw [List.mem_singleton.mp hy] at e; rw [← e]; exact hx)⟩
theorem BD.new {H H' : Hp} {E B p : Addr} {bs : List (Str × Addr)} {bf : Str → List Str} {W ys : List Str} {w : Str} (h : BD H E B bs bf W) (hw : ¬ w ∈ bs.map (·.1)) (hp : ¬ p ∈ bs.map (·.2)) (pE : p ≠ E) (pB : p ≠ B) (wW : w ∈ W) (hy : ys ≠ [])
    (k : ∀ q ∈ bs, ∀ o, H q.2 = some o → H' q.2 = some o) (e : H' p = some (.dK (keysT ys))) : BD H' E B (bs ++ [(w, p)]) (putB bf w ys) W := by
  refine ⟨by rw [List.map_append]; exact snoc_nodup h.nd hw, by rw [List.map_append]; exact snoc_nodup h.nda hp, fun q hq => ?_, fun t ht => ?_⟩
  · rcases List.mem_append.mp hq with z | z
    · rw [putB_ne (fun e => hw (by rw [← e]; exact List.mem_map.mpr ⟨q, z, rfl⟩))]
      exact ⟨k q z _ (h.at_ q z).1, (h.at_ q z).2⟩
    · rw [List.mem_singleton.mp z]
      show H' p = some (.dK (keysT (putB bf w ys w))) ∧ p ≠ E ∧ p ≠ B ∧ putB bf w ys w ≠ [] ∧ w ∈ W
      rw [putB_same]
      exact ⟨e, pE, pB, hy, wW⟩
  · rw [List.map_append] at ht
    rw [putB_ne (fun e => ht (List.mem_append_right _ (by rw [e]; exact List.mem_cons_self)))]
    exact h.no_ t fun z => ht (List.mem_append_left _ z)
theorem BD.set {H H' : Hp} {E B d : Addr} {bs : List (Str × Addr)} {bf : Str → List Str} {W ys : List Str} {w : Str} (h : BD H E B bs bf W) (hw : (w, d) ∈ bs) (hy : ys ≠ [])
    (k : ∀ q ∈ bs, q.2 ≠ d → ∀ o, H q.2 = some o → H' q.2 = some o) (e : H' d = some (.dK (keysT ys))) : BD H' E B bs (putB bf w ys) W := by
  refine ⟨h.nd, h.nda, fun q hq => ?_, fun t ht => ?_⟩
  · by_cases z : q.1 = w
    · have eq : q = (w, d) := map_inj_of h.nd hq hw z
      rw [eq]
      show H' d = some (.dK (keysT (putB bf w ys w))) ∧ d ≠ E ∧ d ≠ B ∧ putB bf w ys w ≠ [] ∧ w ∈ W
      rw [putB_same]
      have := h.at_ _ hw
      exact ⟨e, this.2.1, this.2.2.1, hy, this.2.2.2.2⟩
    · rw [putB_ne z]
      refine ⟨k q hq (fun u => z ?_) _ (h.at_ q hq).1, (h.at_ q hq).2⟩
      have : q = (w, d) := map_inj_of h.nda hq hw u
      rw [this]
  · rw [putB_ne (fun e => ht (by rw [e]; exact List.mem_map.mpr ⟨_, hw, rfl⟩))]
    exact h.no_ t ht
theorem BD.del {H H' : Hp} {E B d : Addr} {bs : List (Str × Addr)} {bf : Str → List Str} {W : List Str} {w : Str} (h : BD H E B bs bf W) (hw : (w, d) ∈ bs)
    (k : ∀ q ∈ bs, q.2 ≠ d → ∀ o, H q.2 = some o → H' q.2 = some o) : BD H' E B (bs.filter fun r => decide (r.1 ≠ w)) (putB bf w []) W := by
  refine ⟨h.nd.sublist (List.filter_sublist.map _), h.nda.sublist (List.filter_sublist.map _), fun q hq => ?_, fun t ht => ?_⟩
  · obtain ⟨q1, q2⟩ := List.mem_filter.mp hq
    have z : q.1 ≠ w := of_decide_eq_true q2
    rw [putB_ne z]
    refine ⟨k q q1 (fun u => z ?_) _ (h.at_ q q1).1, (h.at_ q q1).2⟩
    have : q = (w, d) := map_inj_of h.nda q1 hw u
    rw [this]
  · by_cases e : t = w
    · rw [e, putB_same]
    · rw [putB_ne e]
      refine h.no_ t fun z => ht ?_
      obtain ⟨q, hq, rfl⟩ := List.mem_map.mp z
      exact List.mem_map.mpr ⟨q, List.mem_filter.mpr ⟨hq, decide_eq_true e⟩, rfl⟩
theorem bd_find {bs : List (Str × Addr)} {w : Str} (h : w ∈ bs.map (·.1)) : ∃ d, (w, d) ∈ bs := by
  obtain ⟨p, hp, rfl⟩ := List.mem_map.mp h
  exact ⟨p.2, hp⟩
theorem dec_int {a b : Int} : decide (V.int a = V.int b) = decide (a = b) := by
  by_cases h : a = b
  · rw [h, decide_eq_true rfl, decide_eq_true rfl]
  · rw [decide_eq_false h, decide_eq_false fun z => h (V.int.inj z)]
structure TH (a : Adr) (H : Hp) (x dx L R : Addr) (rows : Rows) (kr : List (Key × V)) : Prop where
  obj : H x = some (.ins a.C_Threads dx [("links", .ref L), ("replies", .ref R)])
  lk : H L = some (.dK (rowsK rows))
  rp : H R = some (.dK kr)
  lr : L ≠ R
  nd : (rows.map (·.1)).Nodup
  few : rows.length ≤ 40
  fewR : kr.length ≤ 40
  ref_ : ∀ t v, valV kr (Sum.inr t) = some v → ∃ d, v = .ref d ∧ H d = some (.dK (keysT (reps rows t))) ∧ d ≠ L ∧ d ≠ R
  no_ : ∀ t : Str, t ≠ "" → valV kr (Sum.inr t) = none → reps rows t = []
  e_ : valV kr (Sum.inr ("" : Str)) = none
  inj : ∀ t t' d, valV kr (Sum.inr t) = some (.ref d) → valV kr (Sum.inr t') = some (.ref d) → t = t'
theorem TH.kp2 {a : Adr} {H H' : Hp} {x dx L R : Addr} {rows : Rows} {kr : List (Key × V)} (h : TH a H x dx L R rows kr) (k : Kp2 H H') : TH a H' x dx L R rows kr :=
  ⟨k _ _ h.obj (fun _ z => nomatch z), k _ _ h.lk (fun _ z => nomatch z), k _ _ h.rp (fun _ z => nomatch z), h.lr, h.nd, h.few, h.fewR, fun t v e => let ⟨d, e1, e2, e3⟩ := h.ref_ t v e; ⟨d, e1, k _ _ e2 (fun _ z => nomatch z), e3⟩, h.no_, h.e_, h.inj⟩
inductive THs (a : Adr) (H : Hp) (x : Addr) (rows : Rows) (n : Nat) : Prop
  | mk : ∀ dx L R kr, TH a H x dx L R rows kr → rows.length ≤ n → kr.length ≤ n → THs a H x rows n
theorem THs.kp2 {a : Adr} {H H' : Hp} {x : Addr} {rows : Rows} {n : Nat} (h : THs a H x rows n) (k : Kp2 H H') : THs a H' x rows n := let ⟨dx, L, R, kr, t, e1, e2⟩ := h; ⟨dx, L, R, kr, t.kp2 k, e1, e2⟩
inductive spTInit_I (a : Adr) (vs : List V) (H : Hp) (Q : VK) : Prop
  | mk : ∀ x dx, vs = [.ref x] → H x = some (.ins a.C_Threads dx []) → (∀ H', (∀ c o, c ≠ x → H c = some o → H' c = some o) → THs a H' x [] 0 → Q .non H') → spTInit_I a vs H Q
noncomputable def spTInit (a : Adr) : Sp := fun vs H Q _ => spTInit_I a vs H Q
inductive spAdd_I (a : Adr) (vs : List V) (H : Hp) (Q : VK) : Prop
  | mk : ∀ x rows n nm an, vs = [.ref x, .str nm, .str an] → THs a H x rows n → n < 40 → up rows nm = none → (∀ H', THs a H' x (rows ++ [(nm, an)]) (n + 1) → Kp1 H H' → Q .non H') → spAdd_I a vs H Q
noncomputable def spAdd (a : Adr) : Sp := fun vs H Q _ => spAdd_I a vs H Q
inductive spAnsTo_I (a : Adr) (vs : List V) (H : Hp) (Q : VK) : Prop
  | mk : ∀ x rows n t, vs = [.ref x, .str t] → THs a H x rows n → t ≠ "" → (∀ l H', H l = none → Same H H' → H' l = some (.lst ((sortS (reps rows t)).map V.str)) → Q (.ref l) H') → spAnsTo_I a vs H Q
noncomputable def spAnsTo (a : Adr) : Sp := fun vs H Q _ => spAnsTo_I a vs H Q
inductive spDepth_I (a : Adr) (vs : List V) (H : Hp) (Q : VK) : Prop
  | mk : ∀ x rows n nm, vs = [.ref x, .str nm] → THs a H x rows n → nm ∈ rows.map (·.1) → (∀ H', Same H H' → Q (.int (depthOf rows nm)) H') → spDepth_I a vs H Q
noncomputable def spDepth (a : Adr) : Sp := fun vs H Q _ => spDepth_I a vs H Q
theorem flds_links (L R : Addr) : ([("links", V.ref L), ("replies", V.ref R)] : List (Str × V)).lookup ("links" : Str) = some (V.ref L) := by simp [List.lookup]
theorem flds_replies (L R : Addr) : ([("links", V.ref L), ("replies", V.ref R)] : List (Str × V)).lookup ("replies" : Str) = some (V.ref R) := by
  have e : (("replies" : Str) == ("links" : Str)) = false := by decide +kernel
  simp [List.lookup, e]
theorem TH.add {a : Adr} {H H' : Hp} {x dx L R : Addr} {rows : Rows} {kr kr' : List (Key × V)} {nm an : Str} (th : TH a H x dx L R rows kr) (hn : up rows nm = none) (few : rows.length < 40)
    (obj' : H' x = some (.ins a.C_Threads dx [("links", .ref L), ("replies", .ref R)])) (lk' : H' L = some (.dK (rowsK (rows ++ [(nm, an)])))) (rp' : H' R = some (.dK kr')) (few' : kr'.length ≤ 40)
    (old : ∀ t d, t ≠ an → valV kr (Sum.inr t) = some (.ref d) → H' d = some (.dK (keysT (reps rows t)))) (hkr : ∀ t, t ≠ an → valV kr' (Sum.inr t) = valV kr (Sum.inr t))
    (new : an ≠ "" → ∃ d, valV kr' (Sum.inr an) = some (.ref d) ∧ H' d = some (.dK (keysT (reps rows an ++ [nm]))) ∧ d ≠ L ∧ d ≠ R ∧ ∀ t, t ≠ an → valV kr (Sum.inr t) ≠ some (.ref d)) (emp : an = "" → kr' = kr) : TH a H' x dx L R (rows ++ [(nm, an)]) kr' := by
  have ex : ∀ t, t ≠ an → reps (rows ++ [(nm, an)]) t = reps rows t := fun t h => by rw [reps_snoc, if_neg (Ne.symm h), List.append_nil]
  have ey : reps (rows ++ [(nm, an)]) an = reps rows an ++ [nm] := by rw [reps_snoc, if_pos rfl]
  have e0 : valV kr' (Sum.inr ("" : Str)) = none := by
    by_cases h : an = ""
    · rw [emp h]; exact th.e_
    · rw [hkr "" (Ne.symm h)]; exact th.e_
  refine ⟨obj', lk', rp', th.lr, snoc_nd th.nd hn, by rw [List.length_append, List.length_singleton]; omega, few', fun t v e => ?_, fun t ht e => ?_, e0, fun t t' d e1 e2 => ?_⟩
  · by_cases h : t = an
    · subst h
      have h0 : t ≠ "" := fun z => by rw [z, e0] at e; cases e
      obtain ⟨d, q1, q2, q3, q4, _⟩ := new h0
      rw [q1] at e
      cases e
      rw [ey]
      exact ⟨d, rfl, q2, q3, q4⟩
    · rw [hkr t h] at e
      obtain ⟨d, rfl, q2, q3⟩ := th.ref_ t v e
      rw [ex t h]
      exact ⟨d, rfl, old t d h e, q3⟩
  · by_cases h : t = an
    · subst h
      obtain ⟨d, q1, _⟩ := new ht
      rw [q1] at e
      cases e
    · rw [ex t h]
      rw [hkr t h] at e
      exact th.no_ t ht e
  · by_cases h : t = an
    · by_cases h' : t' = an
      · rw [h, h']
      · subst h
        have h0 : t ≠ "" := fun z => by rw [z, e0] at e1; cases e1
        obtain ⟨d0, q1, _, _, _, q5⟩ := new h0
        rw [q1] at e1
        cases e1
        rw [hkr t' h'] at e2
        exact absurd e2 (q5 t' h')
    · by_cases h' : t' = an
      · subst h'
        have h0 : t' ≠ "" := fun z => by rw [z, e0] at e2; cases e2
        obtain ⟨d0, q1, _, _, _, q5⟩ := new h0
        rw [q1] at e2
        cases e2
        rw [hkr t h] at e1
        exact absurd e1 (q5 t h)
      · rw [hkr t h] at e1
        rw [hkr t' h'] at e2
        exact th.inj t t' d e1 e2
section
variable {P : Program} {w : World} {K : PySem.W.Frag} {mg : Str → Option Value} {base : Heap} {a : Adr}
theorem ok_tinit {fd : FuncData} (F : Fun K "__init__" "Threads.__init__" sThreads_init a.f_Threads_init fd) (T : Txt K mg a) : FnOk P w K mg base CX0 1 a.f_Threads_init fd ["self"] (spTInit a) := by
  refine F.ok sc_Threads_init (fun vs H Q E h => ?_) (fun cdv A outer st H vs Q E hr h => ?_)
  · obtain ⟨x, dx, rfl, _⟩ := h; rfl
  · obtain ⟨x, dx, rfl, hx, k⟩ := h
    refine ⟨_, (pss_cons (ps_fld (pv 0) pe_dnewK rfl)
        (pss_one (ps_fld (pv 0) pe_dnewK rfl))), ?_⟩
    intro L hL
    have ne1 : x ≠ L := ne_of_none hx hL
    refine ⟨_, rfl, x, _, dx, _, rfl, (by rw [upd_ne ne1]; exact hx), T.c_Threads, T.n_Threads_links, by decide, ?_⟩
    intro R hR
    have hx1 : (upd (upd H L (.dK [])) x (.ins a.C_Threads dx (putF "links" (.ref L) []))) x = some (.ins a.C_Threads dx (putF "links" (.ref L) [])) := upd_same
    have hL1 : (upd (upd H L (.dK [])) x (.ins a.C_Threads dx (putF "links" (.ref L) []))) L = some (.dK []) := by rw [upd_ne ne1.symm]; exact upd_same
    have ne2 : x ≠ R := ne_of_none hx1 hR
    have ne3 : L ≠ R := ne_of_none hL1 hR
    refine ⟨_, rfl, x, _, dx, _, rfl, (by rw [upd_ne ne2]; exact hx1), T.c_Threads, T.n_Threads_replies, (by show 1 < 1000; decide), ?_⟩
    refine k _ (fun c o ne e => ?_) ⟨dx, L, R, [], ⟨upd_same, ?_, ?_, ne3, by simp, by decide, by decide, fun t v z => (by cases z), fun _ _ _ => rfl, rfl, fun _ _ _ z => (by cases z)⟩, Nat.le_refl _, Nat.le_refl _⟩
    · rw [upd_ne ne, upd_ne (ne_of_none (by rw [upd_ne ne, upd_ne (ne_of_none e hL)]; exact e) hR), upd_ne ne, upd_ne (ne_of_none e hL)]
      exact e
    · rw [upd_ne ne1.symm, upd_ne ne3, upd_ne ne1.symm]; exact upd_same
    · rw [upd_ne ne2.symm]; exact upd_same
theorem ok_ansto {fd : FuncData} (F : Fun K "answers_to" "Threads.answers_to" sThreads_answers_to a.f_Threads_answers_to fd) (T : Txt K mg a) : FnOk P w K mg base CX0 1 a.f_Threads_answers_to fd ["self", "name"] (spAnsTo a) := by
  refine F.ok sc_Threads_answers_to (fun vs H Q E h => ?_) (fun cdv A outer st H vs Q E hr h => ?_)
  · obtain ⟨x, rows, n, nm, rfl, _⟩ := h; rfl
  · obtain ⟨x, rows, n, t, rfl, ⟨dx, L, R, kr, th, _, _⟩, ht, k⟩ := h
    have hu := hu_of hr
    refine ⟨_, (pss_one (ps_ret (pe_callB (call_sorted_dict rfl) rfl T.b_sorted PyProof.Rows.boot_sorted (pac (pe_dget2 hu (pe_fld (pv 0) rfl) (pv 1) pe_dnewK ⟨rfl, rfl, rfl, rfl⟩) pa_nil)))), ?_⟩
    refine ⟨_, rfl, x, _, dx, _, _, rfl, th.obj, T.c_Threads, T.n_Threads_replies, flds_replies L R, R, rfl, .inl ⟨kr, .inl th.rp⟩, _, rfl, fun p hp => ?_⟩
    have s1 : Same H (upd H p (.dK [])) := Same.upd_new hp
    have hfew := th.few
    have hrl := reps_len rows t
    refine ⟨_, DGet.k (k := Sum.inr t) (s1 _ _ th.rp), ?_⟩
    cases hv : valV kr (Sum.inr t) with
    | none =>
      have e := th.no_ t ht hv
      refine ⟨p, [], [], rfl, upd_same, rfl, by decide, fun l hl => ?_⟩
      refine k l _ (s1.free hl) (s1.upd_of (s1.free hl)) ?_
      rw [upd_same, e]
    | some v =>
      obtain ⟨d, rfl, hd, _⟩ := th.ref_ t v hv
      refine ⟨d, keysT (reps rows t), reps rows t, rfl, s1 _ _ hd, ?_, by omega, fun l hl => k l _ (s1.free hl) (s1.upd_of (s1.free hl)) upd_same⟩
      unfold keysT
      rw [List.map_map]
      rfl
theorem ok_add {fd : FuncData} (F : FunD K "add" "Threads.add" sThreads_add a.f_Threads_add fd) (T : Txt K mg a) (FF : Funs K a) : FnOk P w K mg base CX0 2 a.f_Threads_add fd ["self", "name", "answers"] (spAdd a) := by
  obtain ⟨fdC, F_check_new, b_check_new⟩ := FF.F_check_new
  have G_check_new : FnOk P w K mg base CX0 1 a.f_check_new fdC ["name", "there"] spNewD := ok_new F_check_new T
  refine F.ok sc_Threads_add (fun vs H Q E h => ?_) (fun cdv A outer st H vs Q E hr h => ?_)
  · obtain ⟨x, rows, n, nm, an, rfl, _⟩ := h; rfl
  · obtain ⟨x, rows, n, nm, an, rfl, ⟨dx, L, R, kr, th, hl1, hl2⟩, hn40, hn, k⟩ := h
    have hu := hu_of hr
    have hr_check_new : Room 1 _ := hr
    refine ⟨_, (pss_cons (ps_expr (pe_call G_check_new hr_check_new rfl T.m_check_new F_check_new.kp b_check_new .nil pass0 (pac (pv 1) (pac (pe_fld (pv 0) rfl) pa_nil))))
        (pss_cons (ps_dput hu (pe_fld (pv 0) rfl) (pv 1) (pv 2) rfl)
        (pss_one (ps_if (pt_cmpR op_ne (pv 2) pe_str (nomark _)) (pss_cons (ps_if (pt_cmp (pc_dnotin hu (pv 2) (pe_fld (pv 0) rfl))) (pss_one (ps_dput hu (pe_fld (pv 0) rfl) (pv 2) pe_dnewK rfl)) pss_nil)
        (pss_one (ps_dput hu (pe_dget hu (pe_fld (pv 0) rfl) (pv 2) (fun _ _ => rfl)) (pv 1) pe_bl rfl))) pss_nil)))), ?_⟩
    have xL : x ≠ L := fun z => by have h1 := th.obj; rw [z, th.lk] at h1; cases h1
    have xR : x ≠ R := fun z => by have h1 := th.obj; rw [z, th.rp] at h1; cases h1
    refine ⟨_, rfl, _, rfl, x, _, dx, _, _, rfl, th.obj, T.c_Threads, T.n_Threads_links, flds_links L R, nm, L, _, rfl, th.lk, (by rw [val_rows, hn]; rfl), ?_⟩
    refine ⟨_, rfl, _, rfl, x, _, dx, _, _, rfl, th.obj, T.c_Threads, T.n_Threads_links, flds_links L R, _, rfl, L, _, rfl, DPut.k (k := Sum.inr nm) th.lk (by rw [rowsK, List.length_map]; exact small1000 (by omega)), ?_⟩
    rw [put_rows hn]
    have kp : Kp1 H (upd H L (.dK (rowsK (rows ++ [(nm, an)])))) := Kp1.upd th.lk
    have obj1 : (upd H L (.dK (rowsK (rows ++ [(nm, an)])))) x = some (.ins a.C_Threads dx [("links", .ref L), ("replies", .ref R)]) := by rw [upd_ne xL]; exact th.obj
    have rp1 : (upd H L (.dK (rowsK (rows ++ [(nm, an)])))) R = some (.dK kr) := by rw [upd_ne th.lr.symm]; exact th.rp
    have lk1 : (upd H L (.dK (rowsK (rows ++ [(nm, an)])))) L = some (.dK (rowsK (rows ++ [(nm, an)]))) := upd_same
    have old1 : ∀ t d, valV kr (Sum.inr t) = some (.ref d) → (upd H L (.dK (rowsK (rows ++ [(nm, an)])))) d = some (.dK (keysT (reps rows t))) ∧ d ≠ L ∧ d ≠ R := fun t d e => by
      obtain ⟨d', e1, e2, e3, e4⟩ := th.ref_ t _ e
      cases e1
      exact ⟨by rw [upd_ne e3]; exact e2, e3, e4⟩
    have up1 : ∀ c o, H c = some o → c ≠ L → (upd H L (.dK (rowsK (rows ++ [(nm, an)])))) c = some o := fun c o e ne => by rw [upd_ne ne]; exact e
    generalize upd H L (.dK (rowsK (rows ++ [(nm, an)]))) = H1 at kp obj1 rp1 lk1 old1 up1
    have lens : (rows ++ [(nm, an)]).length ≤ n + 1 := by rw [List.length_append, List.length_singleton]; omega
    refine ⟨_, rfl, rfl, _, rfl, ?_⟩
    by_cases han : an = ""
    · have e : decide (V.str an = V.str "") = true := by rw [han]; simp
      rw [e]
      exact iteF (k H1 ⟨dx, L, R, kr, th.add hn (by omega) obj1 lk1 rp1 th.fewR (fun t d _ e => (old1 t d e).1) (fun _ _ => rfl) (fun z => absurd han z) (fun _ => rfl), lens, by omega⟩ kp)
    · have e : decide (V.str an = V.str "") = false := by simp [han]
      rw [e]
      have nrep : ¬ nm ∈ reps rows an := fun z => up_none.mp hn (reps_sub z)
      refine iteT ⟨_, rfl, _, rfl, x, _, dx, _, _, rfl, obj1, T.c_Threads, T.n_Threads_replies, flds_replies L R, R, _, rfl, DGet.k (k := Sum.inr an) rp1, _, rfl, ?_⟩
      cases hv : valV kr (Sum.inr an) with
      | none =>
        refine iteT ?_
        intro p hp
        have xp : x ≠ p := ne_of_none obj1 hp
        have Lp : L ≠ p := ne_of_none lk1 hp
        have Rp : R ≠ p := ne_of_none rp1 hp
        refine ⟨_, rfl, x, _, dx, _, _, rfl, (by rw [upd_ne xp]; exact obj1), T.c_Threads, T.n_Threads_replies, flds_replies L R, _, rfl, R, _, rfl, DPut.k (k := Sum.inr an) (by rw [upd_ne Rp]; exact rp1) (small1000 (by omega)), ?_⟩
        rw [putK_new _ hv]
        have vk : ∀ t, valV (kr ++ [(Sum.inr an, V.ref p)]) (Sum.inr t) = if (Sum.inr t : Key) = Sum.inr an then some (V.ref p) else valV kr (Sum.inr t) := fun t => valV_snoc _ _ _ _ hv
        have van : valV (kr ++ [(Sum.inr an, V.ref p)]) (Sum.inr an) = some (V.ref p) := by rw [vk, if_pos rfl]
        have vot : ∀ t, t ≠ an → valV (kr ++ [(Sum.inr an, V.ref p)]) (Sum.inr t) = valV kr (Sum.inr t) := fun t h => by rw [vk, if_neg (fun z => h (Sum.inr.inj z))]
        have rp2 : (upd (upd H1 p (.dK [])) R (.dK (kr ++ [(Sum.inr an, V.ref p)]))) R = some (.dK (kr ++ [(Sum.inr an, V.ref p)])) := upd_same
        have dp2 : (upd (upd H1 p (.dK [])) R (.dK (kr ++ [(Sum.inr an, V.ref p)]))) p = some (.dK []) := by rw [upd_ne Rp.symm]; exact upd_same
        refine ⟨_, rfl, x, _, dx, _, _, rfl, (by rw [upd_ne xR, upd_ne xp]; exact obj1), T.c_Threads, T.n_Threads_replies, flds_replies L R, _, rfl, R, _, rfl, (by rw [← van]; exact DGet.k (k := Sum.inr an) rp2), _, rfl, p, _, rfl, DPut.k (k := Sum.inr nm) dp2 (by decide), ?_⟩
        have ek : putK ([] : List (Key × V)) (Sum.inr nm) (.bl true) = keysT [nm] := rfl
        rw [ek]
        refine k _ ⟨dx, L, R, _, th.add hn (by omega) ?_ ?_ ?_ ?_ ?_ vot ?_ ?_, lens, ?_⟩ ?_
        · rw [upd_ne xp, upd_ne xR, upd_ne xp]; exact obj1
        · rw [upd_ne Lp, upd_ne th.lr, upd_ne Lp]; exact lk1
        · rw [upd_ne Rp]; exact upd_same
        · rw [List.length_append, List.length_singleton]; omega
        · intro t d h e
          obtain ⟨q1, q2, q3⟩ := old1 t d e
          rw [upd_ne (ne_of_none q1 hp), upd_ne q3, upd_ne (ne_of_none q1 hp)]
          exact q1
        · intro _
          have er : reps rows an = [] := th.no_ an han hv
          refine ⟨p, van, ?_, Lp.symm, Rp.symm, fun t h e => ?_⟩
          · rw [upd_same, er]; rfl
          · obtain ⟨q1, _, _⟩ := old1 t p e
            rw [hp] at q1
            cases q1
        · exact fun z => absurd z han
        · rw [List.length_append, List.length_singleton]; omega
        · refine kp.trans fun c o e nd => ?_
          have cp : c ≠ p := ne_of_none e hp
          have cR : c ≠ R := fun z => by rw [z, rp1] at e; cases e; exact nd _ rfl
          rw [upd_ne cp, upd_ne cR, upd_ne cp]
          exact e
      | some v =>
        obtain ⟨d, rfl, _, _, _⟩ := th.ref_ an v hv
        obtain ⟨q1, q2, q3⟩ := old1 an d hv
        refine iteF ?_
        have hrl := reps_len rows an
        refine ⟨_, rfl, x, _, dx, _, _, rfl, obj1, T.c_Threads, T.n_Threads_replies, flds_replies L R, _, rfl, R, _, rfl, (by rw [← hv]; exact DGet.k (k := Sum.inr an) rp1), _, rfl, d, _, rfl, DPut.k (k := Sum.inr nm) q1 (by rw [keysT, List.length_map]; exact small1000 (by omega)), ?_⟩
        rw [put_keys nrep]
        have xd : x ≠ d := fun z => by rw [← z, obj1] at q1; cases q1
        refine k _ ⟨dx, L, R, kr, th.add hn (by omega) ?_ ?_ ?_ th.fewR ?_ (fun _ _ => rfl) ?_ (fun _ => rfl), lens, by omega⟩ (kp.trans (Kp1.upd q1))
        · rw [upd_ne xd]; exact obj1
        · rw [upd_ne q2.symm]; exact lk1
        · rw [upd_ne q3.symm]; exact rp1
        · intro t d' h e
          obtain ⟨z1, _, _⟩ := old1 t d' e
          have : d' ≠ d := fun z => h (th.inj t an d (by rw [← z]; exact e) hv)
          rw [upd_ne this]
          exact z1
        · intro _
          refine ⟨d, hv, upd_same, q2, q3, fun t h e => h (th.inj t an d e hv)⟩
end
theorem TH.take {a : Adr} {H H' : Hp} {x dx L R : Addr} {rows : Rows} {kr : List (Key × V)} {nm an : Str} (th : TH a H x dx L R rows kr) (hu : up rows nm = some an)
    (obj' : H' x = some (.ins a.C_Threads dx [("links", .ref L), ("replies", .ref R)])) (lk' : H' L = some (.dK (rowsK (without rows nm)))) (rp' : H' R = some (.dK kr))
    (old : ∀ t d, t ≠ an → valV kr (Sum.inr t) = some (.ref d) → H' d = some (.dK (keysT (reps rows t))))
    (new : ∀ d, valV kr (Sum.inr an) = some (.ref d) → H' d = some (.dK (keysT ((reps rows an).filter fun m => decide (m ≠ nm))))) : TH a H' x dx L R (without rows nm) kr := by
  have hl : (without rows nm).length ≤ rows.length := List.length_filter_le _ _
  have hf := th.few
  have ex : ∀ t, t ≠ an → reps (without rows nm) t = reps rows t := fun t h => by rw [reps_without]; exact filter_not (not_reps th.nd hu h)
  refine ⟨obj', lk', rp', th.lr, without_nd th.nd, by omega, th.fewR, fun t v e => ?_, fun t ht e => ?_, th.e_, th.inj⟩
  · obtain ⟨d, rfl, q2, q3⟩ := th.ref_ t v e
    by_cases h : t = an
    · subst h
      rw [reps_without]
      exact ⟨d, rfl, new d e, q3⟩
    · rw [ex t h]
      exact ⟨d, rfl, old t d h e, q3⟩
  · have e1 := th.no_ t ht e
    rw [reps_without, e1]
    rfl
section
variable {P : Program} {w : World} {K : PySem.W.Frag} {mg : Str → Option Value} {base : Heap} {a : Adr}
theorem ok_depth {fd : FuncData} (F : Fun K "depth" "Threads.depth" sThreads_depth a.f_Threads_depth fd) (T : Txt K mg a) (FF : Funs K a) : FnOk P w K mg base CX0 2 a.f_Threads_depth fd ["self", "name"] (spDepth a) := by
  obtain ⟨fdC, F_check_there, b_check_there⟩ := FF.F_check_there
  have G_check_there : FnOk P w K mg base CX0 1 a.f_check_there fdC ["name", "there"] spThereD := ok_there F_check_there T
  refine F.ok sc_Threads_depth (fun vs H Q E h => ?_) (fun cdv A outer st H vs Q E hr h => ?_)
  · obtain ⟨x, rows, n, nm, rfl, _⟩ := h; rfl
  · obtain ⟨x, rows, n, nm, rfl, hth, hm, k⟩ := h
    obtain ⟨dx, L, R, kr, th, hl1, hl2⟩ := id hth
    have hu := hu_of hr
    have hr_check_there : Room 1 _ := hr
    refine ⟨_, (pss_cons (ps_expr (pe_call G_check_there hr_check_there rfl T.m_check_there F_check_there.kp b_check_there .nil pass0 (pac (pv 1) (pac (pe_fld (pv 0) rfl) pa_nil))))
        (pss_cons (ps_set (i := 2) sc_Threads_depth.nd rfl (Or.inl rfl) (pe_disp (pps_cons (pv 1) pe_bl pps_nil) rfl rfl (by simp) (by decide)))
        (pss_cons (ps_set (i := 3) sc_Threads_depth.nd rfl (Or.inl rfl) (pe_dget hu (pe_fld (pv 0) rfl) (pv 1) (fun _ _ => rfl)))
        (pss_cons (ps_while PassesOwn.never (PW.pt (pw_and (pt_cmp (pc_din hu (pv 3) (pe_fld (pv 0) rfl))) (pw_and1 (pt_cmp (pc_dnotin hu (pv 3) (pv 2)))))) (pss_cons (ps_dput hu (pv 2) (pv 3) pe_bl rfl)
        (pss_one (ps_set (i := 3) sc_Threads_depth.nd rfl (Or.inl rfl) (pe_dget hu (pe_fld (pv 0) rfl) (pv 3) (fun _ _ => rfl))))))
        (pss_one (ps_ret (pe_op op_sub (pe_callB call_lenD rfl T.b_len PySem.boot_len (pac (pv 2) pa_nil)) pe_int))))))), ?_⟩
    obtain ⟨an, eu⟩ := up_some hm
    refine ⟨_, rfl, _, rfl, x, _, dx, _, _, rfl, th.obj, T.c_Threads, T.n_Threads_links, flds_links L R, nm, L, _, _, rfl, th.lk, (by rw [val_rows, eu]; rfl), ?_⟩
    intro p hp
    refine ⟨_, rfl, upd_same, [(Sum.inr nm, .bl true)], rfl, (by show 1 ≤ 15; decide), ?_⟩
    have ek : mergeK [] [(Sum.inr nm, V.bl true)] = keysT [nm] := rfl
    rw [ek, upd_upd]
    have s1 : Same H (upd H p (.dK (keysT [nm]))) := Same.upd_new hp
    refine ⟨_, rfl, x, _, dx, _, _, rfl, s1 _ _ th.obj, T.c_Threads, T.n_Threads_links, flds_links L R, _, rfl, L, .str an, rfl, (by have := DGet.k (k := Sum.inr nm) (s1 _ _ th.lk); rw [val_rows, eu] at this; exact this), ?_⟩
    have hfew := th.few
    refine ⟨fun m σ H2 => ∃ (met : List Str) (ab : Str), m = rows.length - met.length ∧ σ = [some (.ref x), some (.str nm), some (.ref p), some (.str ab)] ∧ Same H H2 ∧ H2 p = some (.dK (keysT met)) ∧ OnWay rows nm met ab, ⟨_, [nm], an, rfl, rfl, s1, upd_same, OnWay.start eu⟩, ?_⟩
    rintro m σ H2 ⟨met, ab, rfl, rfl, s2, hp2, ow⟩
    have hlen := ow.len
    refine ⟨_, rfl, _, rfl, x, _, dx, _, _, rfl, s2 _ _ th.obj, T.c_Threads, T.n_Threads_links, flds_links L R, L, _, rfl, DGet.k (k := Sum.inr ab) (s2 _ _ th.lk), _, rfl, ?_⟩
    rw [val_rows]
    have fin : ¬ (ab ∈ rows.map (·.1) ∧ ¬ ab ∈ met) → Q (.int ((((keysT met).length : Nat) : Int) - 1)) H2 := fun h => by
      have e := ow.stop h
      rw [keysT, List.length_map, e]
      exact k H2 s2
    cases eb : up rows ab with
    | none =>
      refine iteF ?_
      exact ⟨_, rfl, p, _, rfl, hp2, _, _, rfl, rfl, fin fun z => up_none.mp eb z.1⟩
    | some b =>
      have hab : ab ∈ rows.map (·.1) := List.mem_map.mpr ⟨_, up_mem eb, rfl⟩
      refine iteT ⟨_, rfl, _, rfl, p, _, rfl, DGet.k (k := Sum.inr ab) hp2, _, rfl, ?_⟩
      rw [val_keys]
      by_cases hmet : ab ∈ met
      · rw [if_pos hmet]
        exact ⟨_, rfl, p, _, rfl, hp2, _, _, rfl, rfl, fin fun z => z.2 hmet⟩
      · rw [if_neg hmet]
        have ow2 := ow.step eb hmet
        have hl2' := ow2.len
        rw [List.length_append, List.length_singleton] at hl2'
        refine ⟨_, fun σ' H' q => q, _, rfl, _, rfl, p, _, rfl, DPut.k (k := Sum.inr ab) hp2 (by rw [keysT, List.length_map]; exact small1000 (by omega)), ?_⟩
        rw [put_keys hmet]
        have s3 : Same H (upd H2 p (.dK (keysT (met ++ [ab])))) := s2.upd_of hp
        refine ⟨_, rfl, x, _, dx, _, _, rfl, s3 _ _ th.obj, T.c_Threads, T.n_Threads_links, flds_links L R, _, rfl, L, .str b, rfl, (by have := DGet.k (k := Sum.inr ab) (s3 _ _ th.lk); rw [val_rows, eb] at this; exact this), ?_⟩
        exact ⟨rows.length - (met ++ [ab]).length, by rw [List.length_append, List.length_singleton]; omega, met ++ [ab], b, rfl, rfl, s3, upd_same, ow2⟩
end
inductive spNames_I (a : Adr) (vs : List V) (H : Hp) (Q : VK) : Prop
  | mk : ∀ x rows n, vs = [.ref x] → THs a H x rows n → (∀ l H', H l = none → Same H H' → H' l = some (.lst ((sortS (rows.map (·.1))).map V.str)) → Q (.ref l) H') → spNames_I a vs H Q
noncomputable def spNames (a : Adr) : Sp := fun vs H Q _ => spNames_I a vs H Q
inductive spBeside_I (a : Adr) (vs : List V) (H : Hp) (Q : VK) : Prop
  | mk : ∀ x rows n nm, vs = [.ref x, .str nm] → THs a H x rows n → nm ≠ "" → (∀ l H', H l = none → Same H H' → H' l = some (.lst ((nbr rows nm).map V.str)) → Q (.ref l) H') → spBeside_I a vs H Q
noncomputable def spBeside (a : Adr) : Sp := fun vs H Q _ => spBeside_I a vs H Q
inductive spThread_I (a : Adr) (vs : List V) (H : Hp) (Q : VK) : Prop
  | mk : ∀ x rows n nm, vs = [.ref x, .str nm] → THs a H x rows n → NoE rows → nm ∈ rows.map (·.1) → (∀ l H', H l = none → Same H H' → H' l = some (.lst ((thrOf rows nm).map V.str)) → Q (.ref l) H') → spThread_I a vs H Q
noncomputable def spThread (a : Adr) : Sp := fun vs H Q _ => spThread_I a vs H Q
section
variable {P : Program} {w : World} {K : PySem.W.Frag} {mg : Str → Option Value} {base : Heap} {a : Adr}
theorem ok_names {fd : FuncData} (F : Fun K "names" "Threads.names" sThreads_names a.f_Threads_names fd) (T : Txt K mg a) : FnOk P w K mg base CX0 1 a.f_Threads_names fd ["self"] (spNames a) := by
  refine F.ok sc_Threads_names (fun vs H Q E h => ?_) (fun cdv A outer st H vs Q E hr h => ?_)
  · obtain ⟨x, rows, n, rfl, _⟩ := h; rfl
  · obtain ⟨x, rows, n, rfl, ⟨dx, L, R, kr, th, _, _⟩, k⟩ := h
    have hfew := th.few
    refine ⟨_, (pss_one (ps_ret (pe_callB (call_sorted_dict rfl) rfl T.b_sorted PyProof.Rows.boot_sorted (pac (pe_fld (pv 0) rfl) pa_nil)))), ?_⟩
    refine ⟨_, rfl, x, _, dx, _, _, rfl, th.obj, T.c_Threads, T.n_Threads_links, flds_links L R, L, rowsK rows, rows.map (·.1), rfl, th.lk, ?_, by rw [List.length_map]; omega, fun l hl => k l _ hl (Same.upd_new hl) upd_same⟩
    unfold rowsK
    rw [List.map_map, List.map_map]
    rfl
theorem ok_beside {fd : FuncData} (F : Fun K "beside" "Threads.beside" sThreads_beside a.f_Threads_beside fd) (T : Txt K mg a) : FnOk P w K mg base CX0 1 a.f_Threads_beside fd ["self", "name"] (spBeside a) := by
  refine F.ok sc_Threads_beside (fun vs H Q E h => ?_) (fun cdv A outer st H vs Q E hr h => ?_)
  · obtain ⟨x, rows, n, nm, rfl, _⟩ := h; rfl
  · obtain ⟨x, rows, n, nm, rfl, ⟨dx, L, R, kr, th, _, _⟩, hne, k⟩ := h
    have hu := hu_of hr
    have hfew := th.few
    have hrl := reps_len rows nm
    refine ⟨_, (pss_cons (ps_set (i := 2) sc_Threads_beside.nd rfl (Or.inl rfl) (pe_callTy (call_list_dict rfl) rfl T.b_list PyProof.Rows.boot_list (pac (pe_dget2 hu (pe_fld (pv 0) rfl) (pv 1) pe_dnewK ⟨rfl, rfl, rfl, rfl⟩) pa_nil)))
        (pss_cons (ps_set (i := 3) sc_Threads_beside.nd rfl (Or.inl rfl) (pe_dget2 hu (pe_fld (pv 0) rfl) (pv 1) pe_str ⟨rfl, rfl, rfl, rfl⟩))
        (pss_cons (ps_if (pt_cmpR op_ne (pv 3) pe_str (nomark _)) (pss_one (ps_expr (pe_bm PySem.F.plainAttrs_list PySem.F.slot_list_append PySem.F.type_list_append mt_append (pv 2) (pac (pv 3) pa_nil)))) pss_nil)
        (pss_one (ps_ret (pv 2)))))), ?_⟩
    refine ⟨_, rfl, x, _, dx, _, _, rfl, th.obj, T.c_Threads, T.n_Threads_replies, flds_replies L R, R, rfl, .inl ⟨kr, .inl th.rp⟩, _, rfl, fun p hp => ?_⟩
    have s1 : Same H (upd H p (.dK [])) := Same.upd_new hp
    refine ⟨_, DGet.k (k := Sum.inr nm) (s1 _ _ th.rp), ?_⟩
    have fin : ∀ (l : Addr) (H2 : Hp), H l = none → Same H H2 → H2 l = some (.lst ((reps rows nm).map V.str)) →
        ∃ v, valV (rowsK rows) (Sum.inr nm) = v := fun _ _ _ _ _ => ⟨_, rfl⟩
    have hd : ∃ (d : Addr), (match valV kr (Sum.inr nm) with | some v => v | none => V.ref p) = V.ref d ∧ (upd H p (.dK [])) d = some (.dK (keysT (reps rows nm))) := by
      cases hv : valV kr (Sum.inr nm) with
      | none => exact ⟨p, rfl, by rw [upd_same, th.no_ nm hne hv]; rfl⟩
      | some v =>
        obtain ⟨d, rfl, hd, _⟩ := th.ref_ nm v hv
        exact ⟨d, rfl, s1 _ _ hd⟩
    obtain ⟨d, ed, hdd⟩ := hd
    refine ⟨d, keysT (reps rows nm), by first | (rw [← ed]; cases valV kr (Sum.inr nm) <;> rfl) | (rw [← ed]), hdd, fun l hl => ?_⟩
    have ek : (keysT (reps rows nm)).map (fun kv => kV kv.1) = (reps rows nm).map V.str := by unfold keysT; rw [List.map_map]; rfl
    rw [ek]
    have nl : H l = none := s1.free hl
    have s2 : Same H (upd (upd H p (.dK [])) l (.lst ((reps rows nm).map V.str))) := s1.upd_of nl
    have e2 : (upd (upd H p (.dK [])) l (.lst ((reps rows nm).map V.str))) l = some (.lst ((reps rows nm).map V.str)) := upd_same
    generalize upd (upd H p (.dK [])) l (.lst ((reps rows nm).map V.str)) = H2 at s2 e2
    refine ⟨_, rfl, x, _, dx, _, _, rfl, s2 _ _ th.obj, T.c_Threads, T.n_Threads_links, flds_links L R, L, rfl, .inl ⟨_, .inl (s2 _ _ th.lk)⟩, _, rfl, _, DGet.k (k := Sum.inr nm) (s2 _ _ th.lk), ?_⟩
    rw [val_rows]
    cases hu2 : up rows nm with
    | none =>
      refine ⟨_, rfl, rfl, _, rfl, iteF ⟨_, rfl, k l H2 nl s2 ?_⟩⟩
      rw [e2, nbr, upL, hu2]; simp
    | some an =>
      refine ⟨_, rfl, rfl, _, rfl, ?_⟩
      by_cases han : an = ""
      · have e : decide (V.str an = V.str "") = true := by rw [han]; simp
        show (if (!decide (V.str an = V.str "")) = true then _ else _)
        rw [e]
        refine iteF ⟨_, rfl, k l H2 nl s2 ?_⟩
        rw [e2, nbr, upL, hu2]; simp [han]
      · have e : decide (V.str an = V.str "") = false := by simp [han]
        show (if (!decide (V.str an = V.str "")) = true then _ else _)
        rw [e]
        refine iteT ⟨_, rfl, .inl ⟨rfl, _, SqL.of e2⟩, _, rfl, l, _, _, rfl, rfl, e2, (by rw [List.length_map]; exact small1000 (by omega)), ?_⟩
        refine ⟨_, rfl, k l _ nl (s2.upd_of nl) ?_⟩
        rw [upd_same, nbr, upL, hu2]; simp [han]
end
theorem dfsin_len {rows : Rows} {n here : Str} {seen rc wt : List Str} (d : DFSin rows n here seen rc wt) (hn : n ∈ rows.map (·.1)) : rc.length ≤ 2 * rows.length := by
  have := nodup_le d.nd fun m hm => rch_univ hn (d.sound m hm)
  unfold univ at this
  rw [List.length_append, List.length_map, List.length_map] at this
  omega
section
variable {P : Program} {w : World} {K : PySem.W.Frag} {mg : Str → Option Value} {base : Heap} {a : Adr}
theorem ok_thread {fd : FuncData} (F : Fun K "thread" "Threads.thread" sThreads_thread a.f_Threads_thread fd) (T : Txt K mg a) (FF : Funs K a) : FnOk P w K mg base CX0 2 a.f_Threads_thread fd ["self", "name"] (spThread a) := by
  obtain ⟨fdC, F_check_there, b_check_there⟩ := FF.F_check_there
  obtain ⟨fdB, F_b, b_Threads_beside⟩ := FF.F_Threads_beside
  have G_check_there : FnOk P w K mg base CX0 1 a.f_check_there fdC ["name", "there"] spThereD := ok_there F_check_there T
  have G_Threads_beside : FnOk P w K mg base CX0 1 a.f_Threads_beside fdB ["self", "name"] (spBeside a) := ok_beside F_b T
  refine F.ok sc_Threads_thread (fun vs H Q E h => ?_) (fun cdv A outer st H vs Q E hr h => ?_)
  · obtain ⟨x, rows, n, nm, rfl, _⟩ := h; rfl
  · obtain ⟨x, rows, n, nm, rfl, hth, hne, hm, k⟩ := h
    obtain ⟨dx, L, R, kr, th, hl1, hl2⟩ := id hth
    have hfew := th.few
    have hu := hu_of hr
    have hr_check_there : Room 1 _ := hr
    have hr_Threads_beside : Room 1 _ := hr
    have nm0 : nm ≠ "" := hne nm hm
    refine ⟨_, (pss_cons (ps_expr (pe_call G_check_there hr_check_there rfl T.m_check_there F_check_there.kp b_check_there .nil pass0 (pac (pv 1) (pac (pe_fld (pv 0) rfl) pa_nil))))
        (pss_cons (ps_set (i := 2) sc_Threads_thread.nd rfl (Or.inl rfl) (pe_disp (pps_cons (pv 1) pe_bl pps_nil) rfl rfl (by simp) (by decide)))
        (pss_cons (ps_set (i := 3) sc_Threads_thread.nd rfl (Or.inl rfl) (pe_lstS (pas_cons (pv 1) pas_nil)))
        (pss_cons (ps_while PassesOwn.never (pt_truth (pv 3) (fun _ => rfl)) (pss_cons (ps_set (i := 4) sc_Threads_thread.nd rfl (Or.inl rfl) (pe_bm0 PySem.F.plainAttrs_list PySem.F.slot_list_pop PySem.F.type_list_pop mt_pop (pv 3)))
          (pss_one (ps_for PassesOwn.never rfl (pi_list (pe_meth (pv 0) T.c_Threads T.M_Threads_beside G_Threads_beside hr_Threads_beside b_Threads_beside .nil pass0 (pac (pv 4) pa_nil))) (pg_name (i := 5) sc_Threads_thread.nd rfl (Or.inl rfl)) (pss_one (ps_if (pt_cmp (pc_dnotin hu (pv 5) (pv 2))) (pss_cons (ps_dput hu (pv 2) (pv 5) pe_bl rfl) (pss_one (ps_expr (pe_bm PySem.F.plainAttrs_list PySem.F.slot_list_append PySem.F.type_list_append mt_append (pv 3) (pac (pv 5) pa_nil))))) pss_nil))))))
        (pss_one (ps_fast (ps_ret (pe_callB call_sorted rfl T.b_sorted PyProof.Rows.boot_sorted (pac (pe_comp (sc := defScope sThreads_thread) (N := n_Threads_thread) (fr := [(0, "self")]) ⟨rfl, rfl, by decide +kernel, by decide +kernel, by decide +kernel, by decide +kernel, by decide +kernel⟩ rfl rfl rfl (pi_dict (pv 2)) (fun _ _ _ _ => pts_one (pt_cmp (pc_din hu (pv 0) (pe_fldK K (pv 1) rfl)))) (fun _ _ _ _ => (pv 0))) pa_nil))))))))), ?_⟩
    obtain ⟨an, eu⟩ := up_some hm
    refine ⟨_, rfl, _, rfl, x, _, dx, _, _, rfl, th.obj, T.c_Threads, T.n_Threads_links, flds_links L R, nm, L, _, _, rfl, th.lk, (by rw [val_rows, eu]; rfl), ?_⟩
    intro p hp
    refine ⟨_, rfl, upd_same, [(Sum.inr nm, .bl true)], rfl, (by show 1 ≤ 15; decide), ?_⟩
    have ek : mergeK [] [(Sum.inr nm, V.bl true)] = keysT [nm] := rfl
    rw [ek, upd_upd]
    have s1 : Same H (upd H p (.dK (keysT [nm]))) := Same.upd_new hp
    have p1 : (upd H p (.dK (keysT [nm]))) p = some (.dK (keysT [nm])) := upd_same
    show tSeq _ _ _ _ (upd H p (.dK (keysT [nm])))
    generalize upd H p (.dK (keysT [nm])) = H1 at s1 p1
    refine ⟨_, rfl, (by show 1 ≤ sizeLine; decide), fun q hq => ?_⟩
    have qn : H q = none := s1.free hq
    have pq : p ≠ q := ne_of_none p1 hq
    have s2 : Same H (upd H1 q (.lst [.str nm])) := s1.upd_of qn
    have p2 : (upd H1 q (.lst [.str nm])) p = some (.dK (keysT [nm])) := by rw [upd_ne pq]; exact p1
    have q2 : (upd H1 q (.lst [.str nm])) q = some (.lst ([nm].map V.str)) := upd_same
    show tSeq _ _ _ _ (upd H1 q (.lst [.str nm]))
    generalize upd H1 q (.lst [.str nm]) = H2 at s2 p2 q2
    refine ⟨fun m σ H3 => ∃ (rc wt : List Str) (o4 o5 : Option V), m = 2 * (2 * rows.length - rc.length) + wt.length ∧ m ≤ 200 ∧ σ = [some (.ref x), some (.str nm), some (.ref p), some (.ref q), o4, o5] ∧ Same H H3 ∧ H3 p = some (.dK (keysT rc)) ∧ H3 q = some (.lst (wt.map V.str)) ∧ DFS rows nm rc wt,
      ⟨_, [nm], [nm], none, none, rfl, by show 2 * (2 * rows.length - 1) + 1 ≤ 200; omega, rfl, s2, p2, q2, DFS.init⟩, ?_⟩
    rintro m σ H3 ⟨rc, wt, o4, o5, rfl, hm200, rfl, s3, p3, q3, d⟩
    have dl := d.len hm
    refine ⟨_, rfl, !(wt.map V.str).isEmpty, .inl ⟨_, SqL.of q3, rfl⟩, ?_⟩
    by_cases hw : wt = []
    · subst hw
      refine iteF ?_
      refine ⟨p, keysT rc, p3, fun oa => ?_⟩
      have xp : x ≠ p := ne_of_none th.obj hp
      have Lp : L ≠ p := ne_of_none th.lk hp
      have obj4 : (upd H3 p (.frz oa (.dK (keysT rc)))) x = some (.ins a.C_Threads dx [("links", .ref L), ("replies", .ref R)]) := by rw [upd_ne xp]; exact s3 _ _ th.obj
      have lk4 : (upd H3 p (.frz oa (.dK (keysT rc)))) L = some (.dK (rowsK rows)) := by rw [upd_ne Lp]; exact s3 _ _ th.lk
      have s4 : Same H (upd H3 p (.frz oa (.dK (keysT rc)))) := s3.upd_of hp
      have p4 : (upd H3 p (.frz oa (.dK (keysT rc)))) p = some (.frz oa (.dK (keysT rc))) := upd_same
      generalize upd H3 p (.frz oa (.dK (keysT rc))) = H4 at obj4 lk4 s4 p4
      refine ⟨_, rfl, p, oa, keysT rc, rfl, p4, comp_dictFM (xs := rc) V.str (fun y => decide (y ∈ rows.map (·.1))) V.str (Nat.le_of_lt (small1000 (by omega))) p4 (by unfold keysT; rw [List.map_map]; rfl) ?_ ?_ ?_⟩
      · intro y H5 Q' hy s5 q'
        refine ⟨_, rfl, _, rfl, x, _, dx, _, _, rfl, s5 _ _ obj4, T.c_Threads, T.n_Threads_links, flds_links L R, L, _, rfl, DGet.k (k := Sum.inr y) (s5 _ _ lk4), _, rfl, ?_⟩
        rw [val_rows]
        cases e : up rows y with
        | none =>
          rw [decide_eq_false (up_none.mp e)] at q'
          exact q'
        | some z =>
          rw [decide_eq_true (List.mem_map.mpr ⟨_, up_mem e, rfl⟩)] at q'
          exact q'
      · intro y H5 Q' hy s5 _ q'
        exact ⟨_, rfl, q'⟩
      · intro D hD
        have hfl := nodup_le (d.nd.filter (fun y => decide (y ∈ rows.map (·.1)))) (l := rows.map (·.1)) fun m hm => of_decide_eq_true (List.mem_filter.mp hm).2
        rw [List.length_map] at hfl
        refine ⟨D, _, rfl, SqL.of upd_same, by omega, fun l hl => ?_⟩
        have pD : p ≠ D := ne_of_none p4 hD
        have p5 : (upd H4 D (.lst ((rc.filter fun y => decide (y ∈ rows.map (·.1))).map V.str))) p = some (.frz oa (.dK (keysT rc))) := by rw [upd_ne pD]; exact p4
        have s5 : Same H (upd H4 D (.lst ((rc.filter fun y => decide (y ∈ rows.map (·.1))).map V.str))) := s4.upd_of (s4.free hD)
        generalize upd H4 D (.lst ((rc.filter fun y => decide (y ∈ rows.map (·.1))).map V.str)) = H5 at hl p5 s5
        have pl : p ≠ l := ne_of_none p5 hl
        have nl : H l = none := s5.free hl
        refine ⟨by rw [upd_ne pl]; exact p5, ?_⟩
        refine k l _ nl ((s5.upd_of nl).upd_of hp) ?_
        rw [upd_ne pl.symm, upd_same, d.done th.nd]
    · obtain ⟨wt', here, rfl⟩ : ∃ wt' here, wt = wt' ++ [here] := ⟨wt.dropLast, wt.getLast hw, (List.dropLast_concat_getLast hw).symm⟩
      have hk : (!((wt' ++ [here]).map V.str).isEmpty) = true := by simp
      rw [hk]
      rw [List.length_append, List.length_singleton] at hm200
      refine iteT ⟨_, fun σ' H' z => z, ?_⟩
      refine ⟨_, rfl, .inl ⟨rfl, _, SqL.of q3⟩, q, _, .str here, rfl, rfl, q3, by simp, ?_⟩
      have edl : ((wt' ++ [here]).map V.str).dropLast = wt'.map V.str := by simp
      rw [edl]
      have s4 : Same H (upd H3 q (.lst (wt'.map V.str))) := s3.upd_of qn
      have p4 : (upd H3 q (.lst (wt'.map V.str))) p = some (.dK (keysT rc)) := by rw [upd_ne pq]; exact p3
      have q4 : (upd H3 q (.lst (wt'.map V.str))) q = some (.lst (wt'.map V.str)) := upd_same
      generalize upd H3 q (.lst (wt'.map V.str)) = H4 at s4 p4 q4 ⊢
      have hth4 := hth.kp2 s4.kp2
      have hh : here ∈ rc := d.sub here (by simp)
      have h0 : here ≠ "" := (d.sound here hh).ne hne nm0
      refine ⟨_, rfl, x, dx, _, rfl, s4 _ _ th.obj, rfl, _, rfl, x, rows, n, here, rfl, hth4, h0, fun l H5 nl s5 el => ?_⟩
      have lp : l ≠ p := (ne_of_none p4 nl).symm
      have lq : l ≠ q := (ne_of_none q4 nl).symm
      refine ⟨l, rfl, ⟨_, SqL.of el⟩, for_list (K := K) (a := l) (xs := (nbr rows here).map V.str) (fun i σ H6 => Ex3 fun (rc6 wt6 : List Str) (o : Option V) => And7 (σ = [some (.ref x), some (.str nm), some (.ref p), some (.ref q), some (.str here), o]) (Same H H6) (H6 p = some (.dK (keysT rc6))) (H6 q = some (.lst (wt6.map V.str))) (H6 l = some (.lst ((nbr rows here).map V.str))) (DFSin rows nm here ((nbr rows here).take i) rc6 wt6) (2 * (2 * rows.length - rc6.length) + wt6.length ≤ 2 * (2 * rows.length - rc.length) + wt'.length))
        ⟨rc, wt', o5, rfl, s4.trans s5, s5 _ _ p4, s5 _ _ q4, el, by simpa using d.pop, Nat.le_refl _⟩ ?_ ?_ ?_⟩
      · rintro i σ H6 _ ⟨rc6, wt6, o, rfl, s6, p6, q6, l6, d6, m6⟩
        exact SqL.of l6
      · rintro i v σ H6 hv ⟨rc6, wt6, o, rfl, s6, p6, q6, l6, d6, m6⟩
        obtain ⟨y, hy, rfl⟩ : ∃ y, (nbr rows here)[i]? = some y ∧ V.str y = v := by
          rw [List.getElem?_map] at hv
          cases e : (nbr rows here)[i]? with
          | none => rw [e] at hv; cases hv
          | some t => rw [e] at hv; exact ⟨t, rfl, Option.some.inj hv⟩
        have et : (nbr rows here).take (i + 1) = (nbr rows here).take i ++ [y] := by rw [List.take_add_one, hy]; rfl
        have ym : y ∈ nbr rows here := List.mem_of_getElem? hy
        have l6' := dfsin_len d6 hm
        refine ⟨_, rfl, _, rfl, p, _, rfl, DGet.k (k := Sum.inr y) p6, _, rfl, ?_⟩
        rw [val_keys]
        by_cases hin : y ∈ rc6
        · rw [if_pos hin]
          refine iteF ⟨rc6, wt6, _, rfl, s6, p6, q6, l6, ?_, m6⟩
          rw [et]
          exact d6.old hin
        · rw [if_neg hin]
          refine iteT ⟨_, rfl, _, rfl, p, _, rfl, DPut.k (k := Sum.inr y) p6 (by rw [keysT, List.length_map]; exact small1000 (by omega)), ?_⟩
          rw [put_keys hin]
          have d7 := d6.new hin ym
          have l7 := dfsin_len d7 hm
          rw [List.length_append, List.length_singleton] at l7
          have s7 : Same H (upd H6 p (.dK (keysT (rc6 ++ [y])))) := s6.upd_of hp
          have q7 : (upd H6 p (.dK (keysT (rc6 ++ [y])))) q = some (.lst (wt6.map V.str)) := by rw [upd_ne pq.symm]; exact q6
          have p7 : (upd H6 p (.dK (keysT (rc6 ++ [y])))) p = some (.dK (keysT (rc6 ++ [y]))) := upd_same
          have l7' : (upd H6 p (.dK (keysT (rc6 ++ [y])))) l = some (.lst ((nbr rows here).map V.str)) := by rw [upd_ne lp]; exact l6
          generalize upd H6 p (.dK (keysT (rc6 ++ [y]))) = H7 at s7 q7 p7 l7'
          refine ⟨_, rfl, .inl ⟨rfl, _, SqL.of q7⟩, _, rfl, q, _, _, rfl, rfl, q7, (by rw [List.length_map]; exact small1000 (by omega)), ?_⟩
          refine ⟨rc6 ++ [y], wt6 ++ [y], _, rfl, s7.upd_of qn, by rw [upd_ne pq]; exact p7, by rw [upd_same, List.map_append]; rfl, by rw [upd_ne lq]; exact l7', ?_, ?_⟩
          · rw [et]; exact d7
          · rw [List.length_append, List.length_append, List.length_singleton]; omega
      · rintro σ H6 ⟨rc6, wt6, o, rfl, s6, p6, q6, l6, d6, m6⟩
        rw [List.length_map, List.take_length] at d6
        refine ⟨_, ?_, rc6, wt6, _, _, rfl, by omega, rfl, s6, p6, q6, d6.out⟩
        rw [List.length_append, List.length_singleton]
        omega
end
/- the lists at ls are the threads ts -/
noncomputable def ThrAt (H : Hp) (l : Addr) (ls : List (Addr × List Str)) : Prop := H l = some (.lst (ls.map fun p => V.ref p.1)) ∧ ∀ p ∈ ls, H p.1 = some (.lst (p.2.map V.str))
inductive spThreads_I (a : Adr) (vs : List V) (H : Hp) (Q : VK) : Prop
  | mk : ∀ x rows n, vs = [.ref x] → THs a H x rows n → NoE rows → (∀ l H' ls, H l = none → Same H H' → (∀ p ∈ ls, H p.1 = none ∧ p.1 ≠ l) → ls.map (·.2) = thrAll rows (sortS (rows.map (·.1))) → ThrAt H' l ls → Q (.ref l) H') → spThreads_I a vs H Q
noncomputable def spThreads (a : Adr) : Sp := fun vs H Q _ => spThreads_I a vs H Q
section
variable {P : Program} {w : World} {K : PySem.W.Frag} {mg : Str → Option Value} {base : Heap} {a : Adr}
theorem ok_threads {fd : FuncData} (F : Fun K "threads" "Threads.threads" sThreads_threads a.f_Threads_threads fd) (T : Txt K mg a) (FF : Funs K a) : FnOk P w K mg base CX0 3 a.f_Threads_threads fd ["self"] (spThreads a) := by
  obtain ⟨fdN, F_n, b_Threads_names⟩ := FF.F_Threads_names
  obtain ⟨fdT, F_t, b_Threads_thread⟩ := FF.F_Threads_thread
  have G_Threads_names : FnOk P w K mg base CX0 1 a.f_Threads_names fdN ["self"] (spNames a) := ok_names F_n T
  have G_Threads_thread : FnOk P w K mg base CX0 2 a.f_Threads_thread fdT ["self", "name"] (spThread a) := ok_thread F_t T FF
  refine F.ok sc_Threads_threads (fun vs H Q E h => ?_) (fun cdv A outer st H vs Q E hr h => ?_)
  · obtain ⟨x, rows, n, rfl, _⟩ := h; rfl
  · obtain ⟨x, rows, n, rfl, hth, hne, k⟩ := h
    obtain ⟨dx, L, R, kr, th, hl1, hl2⟩ := id hth
    have hfew := th.few
    have hu := hu_of hr
    have hr_Threads_names : Room 1 _ := hr.mono (by decide)
    have hr_Threads_thread : Room 2 _ := hr
    refine ⟨_, (pss_cons (ps_set (i := 1) sc_Threads_threads.nd rfl (Or.inl rfl) (pe_lstS pas_nil))
        (pss_cons (ps_set (i := 2) sc_Threads_threads.nd rfl (Or.inl rfl) pe_dnewK)
        (pss_cons (ps_for PassesOwn.never rfl (pi_list (pe_meth0 (pv 0) T.c_Threads T.M_Threads_names G_Threads_names hr_Threads_names b_Threads_names .nil pass0)) (pg_name (i := 3) sc_Threads_threads.nd rfl (Or.inl rfl)) (pss_one (ps_if (pt_cmp (pc_dnotin hu (pv 3) (pv 2))) (pss_cons (ps_set (i := 4) sc_Threads_threads.nd rfl (Or.inl rfl) (pe_meth (pv 0) T.c_Threads T.M_Threads_thread G_Threads_thread hr_Threads_thread b_Threads_thread .nil pass0 (pac (pv 3) pa_nil)))
        (pss_cons (ps_expr (pe_bm PySem.F.plainAttrs_list PySem.F.slot_list_append PySem.F.type_list_append mt_append (pv 1) (pac (pv 4) pa_nil)))
        (pss_one (ps_for PassesOwn.never rfl (pi_list (pv 4)) (pg_name (i := 5) sc_Threads_threads.nd rfl (Or.inl rfl)) (pss_one (ps_dput hu (pv 2) (pv 5) pe_bl rfl)))))) pss_nil)))
        (pss_one (ps_ret (pv 1)))))), ?_⟩
    refine ⟨(by show 0 ≤ sizeLine; decide), fun q hq => ?_⟩
    have s1 : Same H (upd H q (.lst [])) := Same.upd_new hq
    have q1 : (upd H q (.lst [])) q = some (.lst []) := upd_same
    show tSeq _ _ _ _ (upd H q (.lst []))
    generalize upd H q (.lst []) = H1 at s1 q1
    intro p hp
    have pn : H p = none := s1.free hp
    have qp : q ≠ p := ne_of_none q1 hp
    have s2 : Same H (upd H1 p (.dK [])) := s1.upd_of pn
    have q2 : (upd H1 p (.dK [])) q = some (.lst []) := by rw [upd_ne qp]; exact q1
    have p2 : (upd H1 p (.dK [])) p = some (.dK (keysT [])) := upd_same
    show tSeq _ _ _ _ (upd H1 p (.dK []))
    generalize upd H1 p (.dK []) = H2 at s2 q2 p2
    have hth2 := hth.kp2 s2.kp2
    refine ⟨_, rfl, x, dx, _, rfl, s2 _ _ th.obj, rfl, x, rows, n, rfl, hth2, fun l H3 nl s3 el => ?_⟩
    generalize hns : sortS (rows.map (·.1)) = ns at el
    have nsm : ∀ m ∈ ns, m ∈ rows.map (·.1) := fun m hm => by rw [← hns] at hm; exact sortS_mem.mp hm
    have nsl : ns.length ≤ 40 := by rw [← hns, sortS_len, List.length_map]; exact hfew
    have lq : l ≠ q := (ne_of_none q2 nl).symm
    have lp : l ≠ p := (ne_of_none p2 nl).symm
    refine ⟨l, rfl, ⟨_, SqL.of el⟩, for_list (K := K) (a := l) (xs := ns.map V.str) (fun i σ H4 => Ex5 fun (ls : List (Addr × List Str)) (mt : List Str) (o3 o4 o5 : Option V) => And9 (σ = [some (.ref x), some (.ref q), some (.ref p), o3, o4, o5]) (Same H H4) (ThrAt H4 q ls) ((∀ z ∈ ls, H z.1 = none ∧ z.1 ≠ q ∧ z.1 ≠ p)) (ls.map (·.2) = thrAll rows (ns.take i)) (H4 p = some (.dK (keysT mt))) (mt.Nodup) ((∀ m, m ∈ mt ↔ ∃ t ∈ thrAll rows (ns.take i), m ∈ t)) (H4 l = some (.lst (ns.map V.str))))
      ⟨[], [], none, none, none, rfl, s2.trans s3, ⟨s3 _ _ q2, (fun _ z => nomatch z)⟩, (fun _ z => nomatch z), rfl, s3 _ _ p2, List.Pairwise.nil, fun m => ⟨(fun z => nomatch z), fun ⟨t, z, _⟩ => nomatch z⟩, el⟩ ?_ ?_ ?_⟩
    · rintro i σ H4 _ ⟨ls, mt, o3, o4, o5, rfl, s4, hT, hz, e4, p4, nd4, m4, l4⟩
      exact SqL.of l4
    · rintro i v σ H4 hv ⟨ls, mt, o3, o4, o5, rfl, s4, hT, hz, e4, p4, nd4, m4, l4⟩
      obtain ⟨nm, hy, rfl⟩ : ∃ y, ns[i]? = some y ∧ V.str y = v := by
        rw [List.getElem?_map] at hv
        cases e : ns[i]? with
        | none => rw [e] at hv; cases hv
        | some t => rw [e] at hv; exact ⟨t, rfl, Option.some.inj hv⟩
      have et : ns.take (i + 1) = ns.take i ++ [nm] := by rw [List.take_add_one, hy]; rfl
      have hnm : nm ∈ rows.map (·.1) := nsm nm (List.mem_of_getElem? hy)
      have hpre : ∀ m ∈ ns.take i, m ∈ rows.map (·.1) := fun m hm => nsm m (List.mem_of_mem_take hm)
      have hmet := thr_met th.nd hne hpre hnm
      have hll : ls.length ≤ 40 := by
        have := congrArg List.length e4
        rw [List.length_map] at this
        have h2 := thrAll_len (rows := rows) (ns.take i)
        rw [List.length_take] at h2
        omega
      have hmt : ∀ m ∈ mt, m ∈ rows.map (·.1) := fun m hm => by
        obtain ⟨t, ht, hmt⟩ := (m4 m).mp hm
        obtain ⟨y, _, rfl⟩ := thrAll_mem _ ht
        exact (mem_thr.mp hmt).1
      rw [et, thrAll_snoc]
      refine ⟨_, rfl, _, rfl, p, _, rfl, DGet.k (k := Sum.inr nm) p4, _, rfl, ?_⟩
      rw [val_keys]
      by_cases hin : nm ∈ mt
      · rw [if_pos hin]
        refine iteF ⟨ls, mt, _, _, _, rfl, s4, hT, hz, ?_, p4, nd4, ?_, l4⟩
        · unfold thrGo
          rw [if_pos (hmet.mp ((m4 nm).mp hin))]
          exact e4
        · unfold thrGo
          rw [if_pos (hmet.mp ((m4 nm).mp hin))]
          exact m4
      · rw [if_neg hin]
        have hnot : ¬ thrOf rows nm ∈ thrAll rows (ns.take i) := fun z => hin ((m4 nm).mpr (hmet.mpr z))
        have hth4 := hth.kp2 s4.kp2
        refine iteT ⟨_, rfl, x, dx, _, rfl, s4 _ _ th.obj, rfl, _, rfl, x, rows, n, nm, rfl, hth4, hne, hnm, fun l5 H5 n5 s5 e5 => ?_⟩
        have l5q : l5 ≠ q := (ne_of_none hT.1 n5).symm
        have l5p : l5 ≠ p := (ne_of_none p4 n5).symm
        have l5l : l5 ≠ l := (ne_of_none l4 n5).symm
        have q5 := s5 _ _ hT.1
        refine ⟨_, rfl, .inl ⟨rfl, _, SqL.of q5⟩, _, rfl, q, _, _, rfl, rfl, q5, (by rw [List.length_map]; exact small1000 (by omega)), ?_⟩
        have eL : (ls.map fun p => V.ref p.1) ++ [V.ref l5] = (ls ++ [((l5, thrOf rows nm) : Addr × List Str)]).map fun p => V.ref p.1 := by rw [List.map_append]; rfl
        rw [eL]
        have qn : H q = none := hq
        have s6 : Same H (upd H5 q (.lst ((ls ++ [((l5, thrOf rows nm) : Addr × List Str)]).map fun p => V.ref p.1))) := (s4.trans s5).upd_of qn
        have hT6 : ThrAt (upd H5 q (.lst ((ls ++ [((l5, thrOf rows nm) : Addr × List Str)]).map fun p => V.ref p.1))) q (ls ++ [((l5, thrOf rows nm) : Addr × List Str)]) := ⟨upd_same, fun z hz' => by
          rcases List.mem_append.mp hz' with y | y
          · rw [upd_ne (hz z y).2.1]; exact s5 _ _ (hT.2 z y)
          · rw [List.mem_singleton.mp y, upd_ne l5q]; exact e5⟩
        have p6 : (upd H5 q (.lst ((ls ++ [((l5, thrOf rows nm) : Addr × List Str)]).map fun p => V.ref p.1))) p = some (.dK (keysT mt)) := by rw [upd_ne qp.symm]; exact s5 _ _ p4
        have l6 : (upd H5 q (.lst ((ls ++ [((l5, thrOf rows nm) : Addr × List Str)]).map fun p => V.ref p.1))) l = some (.lst (ns.map V.str)) := by rw [upd_ne lq]; exact s5 _ _ l4
        generalize upd H5 q (.lst ((ls ++ [((l5, thrOf rows nm) : Addr × List Str)]).map fun p => V.ref p.1)) = H6 at s6 hT6 p6 l6
        have e6 : H6 l5 = some (.lst ((thrOf rows nm).map V.str)) := hT6.2 (l5, thrOf rows nm) (List.mem_append_right _ List.mem_cons_self)
        have hz6 : ∀ z ∈ ls ++ [((l5, thrOf rows nm) : Addr × List Str)], H z.1 = none ∧ z.1 ≠ q ∧ z.1 ≠ p := fun z hz' => by
          rcases List.mem_append.mp hz' with y | y
          · exact hz z y
          · rw [List.mem_singleton.mp y]; exact ⟨s4.free n5, l5q, l5p⟩
        refine ⟨_, rfl, l5, rfl, ⟨_, SqL.of e6⟩, for_list (K := K) (a := l5) (xs := (thrOf rows nm).map V.str) (fun j σ H7 => Ex2 fun (mt7 : List Str) (o : Option V) => And7 (σ = [some (.ref x), some (.ref q), some (.ref p), some (.str nm), some (.ref l5), o]) (Same H H7) (ThrAt H7 q (ls ++ [((l5, thrOf rows nm) : Addr × List Str)])) (H7 p = some (.dK (keysT mt7))) (mt7.Nodup) ((∀ m, m ∈ mt7 ↔ m ∈ mt ∨ m ∈ (thrOf rows nm).take j)) (H7 l = some (.lst (ns.map V.str))))
          ⟨mt, _, rfl, s6, hT6, p6, nd4, fun m => by rw [List.take_zero]; exact ⟨.inl, fun z => z.elim id (fun z => nomatch z)⟩, l6⟩ ?_ ?_ ?_⟩
        · rintro j σ H7 _ ⟨mt7, o, rfl, s7, hT7, p7, nd7, m7, l7⟩
          exact SqL.of (hT7.2 (l5, thrOf rows nm) (List.mem_append_right _ List.mem_cons_self))
        · rintro j v σ H7 hv ⟨mt7, o, rfl, s7, hT7, p7, nd7, m7, l7⟩
          obtain ⟨y, hy, rfl⟩ : ∃ y, (thrOf rows nm)[j]? = some y ∧ V.str y = v := by
            rw [List.getElem?_map] at hv
            cases e : (thrOf rows nm)[j]? with
            | none => rw [e] at hv; cases hv
            | some t => rw [e] at hv; exact ⟨t, rfl, Option.some.inj hv⟩
          have ej : (thrOf rows nm).take (j + 1) = (thrOf rows nm).take j ++ [y] := by rw [List.take_add_one, hy]; rfl
          have hl7 : mt7.length ≤ 40 := by
            have := nodup_le nd7 (l := rows.map (·.1)) fun m hm => by
              rcases (m7 m).mp hm with z | z
              · exact hmt m z
              · exact (mem_thr.mp (List.mem_of_mem_take z)).1
            rw [List.length_map] at this
            omega
          refine ⟨_, rfl, _, rfl, p, _, rfl, DPut.k (k := Sum.inr y) p7 (by rw [keysT, List.length_map]; exact small1000 (by omega)), ?_⟩
          rw [put_add]
          refine ⟨addN mt7 y, _, rfl, s7.upd_of pn, ⟨by rw [upd_ne qp]; exact hT7.1, fun z hz' => by rw [upd_ne (hz6 z hz').2.2]; exact hT7.2 z hz'⟩, upd_same, add_nd nd7, fun m => ?_, by rw [upd_ne lp]; exact l7⟩
          rw [mem_add, m7, ej, List.mem_append, List.mem_singleton, or_assoc]
        · rintro σ H7 ⟨mt7, o, rfl, s7, hT7, p7, nd7, m7, l7⟩
          rw [List.length_map, List.take_length] at m7
          refine ⟨_, mt7, _, _, _, rfl, s7, hT7, hz6, ?_, p7, nd7, fun m => ?_, l7⟩
          · unfold thrGo
            rw [if_neg hnot, List.map_append, e4]
            rfl
          · unfold thrGo
            rw [if_neg hnot, m7, m4]
            constructor
            · rintro (⟨t, h1, h2⟩ | h)
              · exact ⟨t, List.mem_append_left _ h1, h2⟩
              · exact ⟨_, List.mem_append_right _ List.mem_cons_self, h⟩
            · rintro ⟨t, h1, h2⟩
              rcases List.mem_append.mp h1 with z | z
              · exact .inl ⟨t, z, h2⟩
              · rw [List.mem_singleton.mp z] at h2; exact .inr h2
    · rintro σ H4 ⟨ls, mt, o3, o4, o5, rfl, s4, hT, hz, e4, p4, nd4, m4, l4⟩
      rw [List.length_map, List.take_length] at e4
      exact ⟨_, rfl, k q H4 ls hq s4 (fun z hz' => ⟨(hz z hz').1, (hz z hz').2.1⟩) (by rw [hns]; exact e4) hT⟩
end
noncomputable abbrev IRow := Str × Addr × List Str
noncomputable abbrev entK (rows : List IRow) : List (Key × V) := dG (·.1) (fun r => V.ref r.2.1) rows
noncomputable def nwOf (rows : List IRow) : NW := rows.map fun r => (r.1, r.2.2)
theorem nw_names (rows : List IRow) : (nwOf rows).map (·.1) = rows.map (·.1) := by unfold nwOf; rw [List.map_map]; rfl
theorem nw_len (rows : List IRow) : (nwOf rows).length = rows.length := List.length_map _
structure IX (a : Adr) (H : Hp) (x dx E B : Addr) (rows : List IRow) (bs : List (Str × Addr)) (W : List Str) : Prop where
  obj : H x = some (.ins a.C_Index dx [("entries", .ref E), ("bearers", .ref B)])
  en : H E = some (.dK (entK rows))
  br : H B = some (.dK (brK bs))
  eb : E ≠ B
  ls : ∀ r ∈ rows, H r.2.1 = some (.lst (r.2.2.map V.str)) ∧ SS r.2.2 = r.2.2 ∧ ∀ w ∈ r.2.2, w ∈ W
  nd : (rows.map (·.1)).Nodup
  few : rows.length ≤ 40
  wf : W.length ≤ 20
  bd : BD H E B bs (bear (nwOf rows)) W
noncomputable def ftp (E B : Addr) (rows : List IRow) (bs : List (Str × Addr)) : List Addr := E :: B :: (bs.map (·.2) ++ rows.map (·.2.1))
inductive IXs (a : Adr) (H : Hp) (x : Addr) (R : NW) (W : List Str) (n : Nat) (F : List Addr) : Prop
  | mk : ∀ dx E B rows bs, IX a H x dx E B rows bs W → nwOf rows = R → R.length ≤ n → F = ftp E B rows bs → IXs a H x R W n F
theorem mem_ftp {E B : Addr} {rows : List IRow} {bs : List (Str × Addr)} {c : Addr} : c ∈ ftp E B rows bs ↔ c = E ∨ c = B ∨ c ∈ bs.map (·.2) ∨ c ∈ rows.map (·.2.1) := by
  unfold ftp
  rw [List.mem_cons, List.mem_cons, List.mem_append]
theorem IX.keep {a : Adr} {H H' : Hp} {x dx E B : Addr} {rows : List IRow} {bs : List (Str × Addr)} {W : List Str} (h : IX a H x dx E B rows bs W) (k : ∀ c o, (c = x ∨ c ∈ ftp E B rows bs) → H c = some o → H' c = some o) : IX a H' x dx E B rows bs W :=
  ⟨k _ _ (.inl rfl) h.obj, k _ _ (.inr (mem_ftp.mpr (.inl rfl))) h.en, k _ _ (.inr (mem_ftp.mpr (.inr (.inl rfl)))) h.br, h.eb,
    fun r hr => ⟨k _ _ (.inr (mem_ftp.mpr (.inr (.inr (.inr (List.mem_map.mpr ⟨r, hr, rfl⟩)))))) (h.ls r hr).1, (h.ls r hr).2⟩, h.nd, h.few, h.wf,
    h.bd.congr (fun p hp o e => k _ _ (.inr (mem_ftp.mpr (.inr (.inr (.inl (List.mem_map.mpr ⟨p, hp, rfl⟩)))))) e) fun _ => rfl⟩
theorem IXs.keep {a : Adr} {H H' : Hp} {x : Addr} {R : NW} {W : List Str} {n : Nat} {F : List Addr} (h : IXs a H x R W n F) (k : ∀ c o, (c = x ∨ c ∈ F) → H c = some o → H' c = some o) : IXs a H' x R W n F := by
  obtain ⟨dx, E, B, rows, bs, i, e1, e2, rfl⟩ := h
  exact ⟨dx, E, B, rows, bs, i.keep k, e1, e2, rfl⟩
theorem IXs.same {a : Adr} {H H' : Hp} {x : Addr} {R : NW} {W : List Str} {n : Nat} {F : List Addr} (h : IXs a H x R W n F) (s : Same H H') : IXs a H' x R W n F := h.keep fun c o _ e => s c o e
theorem IXs.up {a : Adr} {H : Hp} {x : Addr} {R : NW} {W : List Str} {n : Nat} {F : List Addr} (h : IXs a H x R W n F) : IXs a H x R W (n + 1) F := by
  obtain ⟨dx, E, B, rows, bs, i, e1, e2, e3⟩ := h
  exact ⟨dx, E, B, rows, bs, i, e1, by omega, e3⟩
theorem IXs.kind {a : Adr} {H : Hp} {x : Addr} {R : NW} {W : List Str} {n : Nat} {F : List Addr} (h : IXs a H x R W n F) {c : Addr} (hc : c ∈ F) : (∃ kvs, H c = some (.dK kvs)) ∨ ∃ xs, H c = some (.lst xs) := by
  obtain ⟨dx, E, B, rows, bs, i, e1, e2, rfl⟩ := h
  rcases mem_ftp.mp hc with z | z | z | z
  · rw [z]; exact .inl ⟨_, i.en⟩
  · rw [z]; exact .inl ⟨_, i.br⟩
  · obtain ⟨p, hp, rfl⟩ := List.mem_map.mp z
    exact .inl ⟨_, (i.bd.at_ p hp).1⟩
  · obtain ⟨r, hr, rfl⟩ := List.mem_map.mp z
    exact .inr ⟨_, (i.ls r hr).1⟩
theorem IXs.notIn {a : Adr} {H : Hp} {x : Addr} {R : NW} {W : List Str} {n : Nat} {F : List Addr} (h : IXs a H x R W n F) {c : Addr} (hc : H c = none) : ¬ c ∈ F := fun z => by
  rcases h.kind z with ⟨_, e⟩ | ⟨_, e⟩ <;> rw [hc] at e <;> cases e
theorem IXs.notIns {a : Adr} {H : Hp} {x : Addr} {R : NW} {W : List Str} {n : Nat} {F : List Addr} (h : IXs a H x R W n F) {c C d : Addr} {fs : List (Str × V)} (hc : H c = some (.ins C d fs)) : ¬ c ∈ F := fun z => by
  rcases h.kind z with ⟨_, e⟩ | ⟨_, e⟩ <;> rw [hc] at e <;> cases e
theorem IXs.obj {a : Adr} {H : Hp} {x : Addr} {R : NW} {W : List Str} {n : Nat} {F : List Addr} (h : IXs a H x R W n F) : ∃ dx E B, H x = some (.ins a.C_Index dx [("entries", .ref E), ("bearers", .ref B)]) := let ⟨_, _, _, _, _, i, _, _, _⟩ := h; ⟨_, _, _, i.obj⟩
theorem IXs.nd {a : Adr} {H : Hp} {x : Addr} {R : NW} {W : List Str} {n : Nat} {F : List Addr} (h : IXs a H x R W n F) : (R.map (·.1)).Nodup := by
  obtain ⟨dx, E, B, rows, bs, i, rfl, e2, rfl⟩ := h
  rw [nw_names]; exact i.nd
/- all but what stands in F stays -/
noncomputable def KpF (F : List Addr) (H H' : Hp) : Prop := ∀ c o, ¬ c ∈ F → H c = some o → H' c = some o
inductive spIInit_I (a : Adr) (vs : List V) (H : Hp) (Q : VK) : Prop
  | mk : ∀ (x dx : Addr) (W : List Str), vs = [.ref x] → W.length ≤ 20 → H x = some (.ins a.C_Index dx []) → (∀ H' F, (∀ c o, c ≠ x → H c = some o → H' c = some o) → (∀ c ∈ F, H c = none) → IXs a H' x [] W 0 F → Q .non H') → spIInit_I a vs H Q
noncomputable def spIInit (a : Adr) : Sp := fun vs H Q _ => spIInit_I a vs H Q
inductive spIAdd_I (a : Adr) (vs : List V) (H : Hp) (Q : VK) : Prop
  | mk : ∀ (x p : Addr) (R : NW) (W : List Str) (n : Nat) (F : List Addr) (nm : Str) (ss : List Str), vs = [.ref x, .str nm, .ref p] → IXs a H x R W n F → n < 40 → ¬ nm ∈ R.map (·.1) → H p = some (.lst (ss.map V.str)) → (∀ w ∈ ss, w ∈ W) → ss.length ≤ 60 → (∀ H' F', IXs a H' x (R ++ [(nm, SS ss)]) W (n + 1) F' → KpF F H H' → (∀ c ∈ F', c ∈ F ∨ H c = none) → Q .non H') → spIAdd_I a vs H Q
noncomputable def spIAdd (a : Adr) : Sp := fun vs H Q _ => spIAdd_I a vs H Q
inductive spITake_I (a : Adr) (vs : List V) (H : Hp) (Q : VK) : Prop
  | mk : ∀ (x : Addr) (R : NW) (W : List Str) (n : Nat) (F : List Addr) (nm : Str), vs = [.ref x, .str nm] → IXs a H x R W n F → nm ∈ R.map (·.1) → (∀ H' F', IXs a H' x (noN R nm) W n F' → KpF F H H' → (∀ c ∈ F', c ∈ F) → Q .non H') → spITake_I a vs H Q
noncomputable def spITake (a : Adr) : Sp := fun vs H Q _ => spITake_I a vs H Q
inductive spHaving_I (a : Adr) (vs : List V) (H : Hp) (Q : VK) : Prop
  | mk : ∀ (x : Addr) (R : NW) (W : List Str) (n : Nat) (F : List Addr) (t : Str), vs = [.ref x, .str t] → IXs a H x R W n F → (∀ l H', H l = none → Same H H' → H' l = some (.lst ((sortS (bear R t)).map V.str)) → Q (.ref l) H') → spHaving_I a vs H Q
noncomputable def spHaving (a : Adr) : Sp := fun vs H Q _ => spHaving_I a vs H Q
inductive spWords_I (a : Adr) (vs : List V) (H : Hp) (Q : VK) : Prop
  | mk : ∀ (x : Addr) (R : NW) (W : List Str) (n : Nat) (F : List Addr) (nm : Str) (ws : List Str), vs = [.ref x, .str nm] → IXs a H x R W n F → (nm, ws) ∈ R → (∀ l H', H l = none → Same H H' → H' l = some (.lst (ws.map V.str)) → Q (.ref l) H') → spWords_I a vs H Q
noncomputable def spWords (a : Adr) : Sp := fun vs H Q _ => spWords_I a vs H Q
inductive spAllWords_I (a : Adr) (vs : List V) (H : Hp) (Q : VK) : Prop
  | mk : ∀ (x : Addr) (R : NW) (W : List Str) (n : Nat) (F : List Addr), vs = [.ref x] → IXs a H x R W n F → (∀ l H' ks, ks.Nodup → ks.length ≤ 20 → (∀ t, t ∈ ks ↔ ∃ r ∈ R, t ∈ r.2) → H l = none → Same H H' → H' l = some (.lst ((sortS ks).map V.str)) → Q (.ref l) H') → spAllWords_I a vs H Q
noncomputable def spAllWords (a : Adr) : Sp := fun vs H Q _ => spAllWords_I a vs H Q
theorem flds_ent (E B : Addr) : ([("entries", V.ref E), ("bearers", V.ref B)] : List (Str × V)).lookup ("entries" : Str) = some (V.ref E) := by simp [List.lookup]
theorem flds_bea (E B : Addr) : ([("entries", V.ref E), ("bearers", V.ref B)] : List (Str × V)).lookup ("bearers" : Str) = some (V.ref B) := by
  have e : (("bearers" : Str) == ("entries" : Str)) = false := by decide +kernel
  simp [List.lookup, e]
section
variable {P : Program} {w : World} {K : PySem.W.Frag} {mg : Str → Option Value} {base : Heap} {a : Adr}
theorem ok_iinit {fd : FuncData} (F : Fun K "__init__" "Index.__init__" sIndex_init a.f_Index_init fd) (T : Txt K mg a) : FnOk P w K mg base CX0 1 a.f_Index_init fd ["self"] (spIInit a) := by
  refine F.ok sc_Index_init (fun vs H Q E h => ?_) (fun cdv A outer st H vs Q E hr h => ?_)
  · obtain ⟨x, dx, W, rfl, _⟩ := h; rfl
  · obtain ⟨x, dx, W, rfl, hW, hx, k⟩ := h
    refine ⟨_, (pss_cons (ps_fld (pv 0) pe_dnewK rfl)
        (pss_one (ps_fld (pv 0) pe_dnewK rfl))), ?_⟩
    intro L hL
    have ne1 : x ≠ L := ne_of_none hx hL
    refine ⟨_, rfl, x, _, dx, _, rfl, (by rw [upd_ne ne1]; exact hx), T.c_Index, T.n_Index_entries, by decide, ?_⟩
    intro B hB
    have hx1 : (upd (upd H L (.dK [])) x (.ins a.C_Index dx (putF "entries" (.ref L) []))) x = some (.ins a.C_Index dx (putF "entries" (.ref L) [])) := upd_same
    have hL1 : (upd (upd H L (.dK [])) x (.ins a.C_Index dx (putF "entries" (.ref L) []))) L = some (.dK []) := by rw [upd_ne ne1.symm]; exact upd_same
    have ne2 : x ≠ B := ne_of_none hx1 hB
    have ne3 : L ≠ B := ne_of_none hL1 hB
    refine ⟨_, rfl, x, _, dx, _, rfl, (by rw [upd_ne ne2]; exact hx1), T.c_Index, T.n_Index_bearers, (by show 1 < 1000; decide), ?_⟩
    have hB0 : H B = none := by rw [upd_ne ne2.symm, upd_ne ne3.symm] at hB; exact hB
    refine k _ (ftp L B [] []) (fun c o ne e => ?_) (fun c hc => ?_) ⟨dx, L, B, [], [], ⟨upd_same, ?_, ?_, ne3, (fun _ z => nomatch z), List.nodup_nil, Nat.zero_le _, hW, ⟨List.nodup_nil, List.nodup_nil, (fun _ z => nomatch z), fun _ _ => rfl⟩⟩, rfl, Nat.le_refl _, rfl⟩
    · rw [upd_ne ne, upd_ne (ne_of_none (by rw [upd_ne ne, upd_ne (ne_of_none e hL)]; exact e) hB), upd_ne ne, upd_ne (ne_of_none e hL)]
      exact e
    · rcases mem_ftp.mp hc with z | z | z | z
      · rw [z]; exact hL
      · rw [z]; exact hB0
      · cases z
      · cases z
    · rw [upd_ne ne1.symm, upd_ne ne3, upd_ne ne1.symm]; exact upd_same
    · rw [upd_ne ne2.symm]; exact upd_same
theorem ok_having {fd : FuncData} (F : Fun K "having" "Index.having" sIndex_having a.f_Index_having fd) (T : Txt K mg a) : FnOk P w K mg base CX0 1 a.f_Index_having fd ["self", "word"] (spHaving a) := by
  refine F.ok sc_Index_having (fun vs H Q E h => ?_) (fun cdv A outer st H vs Q E hr h => ?_)
  · obtain ⟨x, R, W, n, F, t, rfl, _⟩ := h; rfl
  · obtain ⟨x, R, W, n, F, t, rfl, ⟨dx, E, B, rows, bs, i, rfl, _, rfl⟩, k⟩ := h
    have hu := hu_of hr
    refine ⟨_, (pss_one (ps_ret (pe_callB (call_sorted_dict rfl) rfl T.b_sorted PyProof.Rows.boot_sorted (pac (pe_dget2 hu (pe_fld (pv 0) rfl) (pv 1) pe_dnewK ⟨rfl, rfl, rfl, rfl⟩) pa_nil)))), ?_⟩
    refine ⟨_, rfl, x, _, dx, _, _, rfl, i.obj, T.c_Index, T.n_Index_bearers, flds_bea E B, B, rfl, .inl ⟨_, .inl i.br⟩, _, rfl, fun p hp => ?_⟩
    have s1 : Same H (upd H p (.dK [])) := Same.upd_new hp
    have hfew := i.few
    have hbl := bear_len (nwOf rows) t
    rw [nw_len] at hbl
    refine ⟨_, DGet.k (k := Sum.inr t) (s1 _ _ i.br), ?_⟩
    by_cases ht : t ∈ bs.map (·.1)
    · obtain ⟨d, hd⟩ := bd_find ht
      have hv : valV (brK bs) (Sum.inr t) = some (V.ref d) := dG_some (r := ((t, d) : Str × Addr)) i.bd.nd hd
      rw [hv]
      refine ⟨d, keysT (bear (nwOf rows) t), bear (nwOf rows) t, rfl, s1 _ _ (i.bd.at_ _ hd).1, ?_, by omega, fun l hl => k l _ (s1.free hl) (s1.upd_of (s1.free hl)) upd_same⟩
      unfold keysT
      rw [List.map_map]
      rfl
    · have hv : valV (brK bs) (Sum.inr t) = none := dG_none ht
      rw [hv]
      refine ⟨p, [], [], rfl, upd_same, rfl, by decide, fun l hl => ?_⟩
      refine k l _ (s1.free hl) (s1.upd_of (s1.free hl)) ?_
      rw [upd_same, i.bd.no_ t ht]
theorem ok_allwords {fd : FuncData} (F : Fun K "all_words" "Index.all_words" sIndex_all_words a.f_Index_all_words fd) (T : Txt K mg a) : FnOk P w K mg base CX0 1 a.f_Index_all_words fd ["self"] (spAllWords a) := by
  refine F.ok sc_Index_all_words (fun vs H Q E h => ?_) (fun cdv A outer st H vs Q E hr h => ?_)
  · obtain ⟨x, R, W, n, F, rfl, _⟩ := h; rfl
  · obtain ⟨x, R, W, n, F, rfl, ⟨dx, E, B, rows, bs, i, rfl, _, rfl⟩, k⟩ := h
    have hbl := i.bd.len
    have hwf := i.wf
    refine ⟨_, (pss_one (ps_ret (pe_callB (call_sorted_dict rfl) rfl T.b_sorted PyProof.Rows.boot_sorted (pac (pe_fld (pv 0) rfl) pa_nil)))), ?_⟩
    refine ⟨_, rfl, x, _, dx, _, _, rfl, i.obj, T.c_Index, T.n_Index_bearers, flds_bea E B, B, brK bs, bs.map (·.1), rfl, i.br, dG_keys _ _ _, by rw [List.length_map]; omega, fun l hl => k l _ (bs.map (·.1)) i.bd.nd (by rw [List.length_map]; omega) (fun t => ?_) hl (Same.upd_new hl) upd_same⟩
    constructor
    · intro ht
      obtain ⟨d, hd⟩ := bd_find ht
      obtain ⟨m, ms, e⟩ := List.exists_cons_of_ne_nil (i.bd.at_ _ hd).2.2.2.1
      obtain ⟨ws, h1, h2⟩ := bear_mem.mp (show m ∈ bear (nwOf rows) t by rw [e]; exact List.mem_cons_self)
      exact ⟨_, h1, h2⟩
    · rintro ⟨r, h1, h2⟩
      refine Classical.byContradiction fun z => ?_
      have e := i.bd.no_ t z
      have := bear_mem.mpr ⟨r.2, h1, h2⟩
      rw [e] at this
      cases this
theorem nw_find {rows : List IRow} {nm : Str} {ws : List Str} (h : (nm, ws) ∈ nwOf rows) : ∃ l, ((nm, l, ws) : IRow) ∈ rows := by
  obtain ⟨r, hr, e⟩ := List.mem_map.mp h
  obtain ⟨e1, e2⟩ := Prod.mk.inj e
  exact ⟨r.2.1, by rw [← e1, ← e2]; exact hr⟩
theorem ok_iwords {fd : FuncData} (F : Fun K "words" "Index.words" sIndex_words a.f_Index_words fd) (T : Txt K mg a) (FF : Funs K a) : FnOk P w K mg base CX0 2 a.f_Index_words fd ["self", "name"] (spWords a) := by
  obtain ⟨fdC, F_check_there, b_check_there⟩ := FF.F_check_there
  have G_check_there : FnOk P w K mg base CX0 1 a.f_check_there fdC ["name", "there"] spThereD := ok_there F_check_there T
  refine F.ok sc_Index_words (fun vs H Q E h => ?_) (fun cdv A outer st H vs Q E hr h => ?_)
  · obtain ⟨x, R, W, n, F, nm, ws, rfl, _⟩ := h; rfl
  · obtain ⟨x, R, W, n, F, nm, ws, rfl, ⟨dx, E, B, rows, bs, i, rfl, _, rfl⟩, hm, k⟩ := h
    have hu := hu_of hr
    have hr_check_there : Room 1 _ := hr
    refine ⟨_, (pss_cons (ps_expr (pe_call G_check_there hr_check_there rfl T.m_check_there F_check_there.kp b_check_there .nil pass0 (pac (pv 1) (pac (pe_fld (pv 0) rfl) pa_nil))))
        (pss_one (ps_ret (pe_callTy call_list_of rfl T.b_list PyProof.Rows.boot_list (pac (pe_dget hu (pe_fld (pv 0) rfl) (pv 1) (fun _ _ => rfl)) pa_nil))))), ?_⟩
    obtain ⟨l0, hl0⟩ := nw_find hm
    have hv : valV (entK rows) (Sum.inr nm) = some (V.ref l0) := dG_some (r := ((nm, l0, ws) : IRow)) i.nd hl0
    refine ⟨_, rfl, _, rfl, x, _, dx, _, _, rfl, i.obj, T.c_Index, T.n_Index_entries, flds_ent E B, nm, E, _, _, rfl, i.en, hv, ?_⟩
    refine ⟨_, rfl, x, _, dx, _, _, rfl, i.obj, T.c_Index, T.n_Index_entries, flds_ent E B, _, rfl, E, _, rfl, (by rw [← hv]; exact DGet.k (k := Sum.inr nm) i.en), l0, _, rfl, .inl (SqL.of (i.ls _ hl0).1), fun l hl => ?_⟩
    exact k l _ hl (Same.upd_new hl) upd_same
end
theorem KpF.upd {F : List Addr} {H H1 : Hp} {b : Addr} {o : HO} (k : KpF F H H1) (h : b ∈ F ∨ H b = none) : KpF F H (upd H1 b o) := fun c u hc e => by
  have : c ≠ b := fun z => h.elim (fun q => hc (by rw [z]; exact q)) fun q => by rw [z, q] at e; cases e
  rw [upd_ne this]
  exact k c u hc e
noncomputable def bfi (R : NW) (nm : Str) (pre : List Str) : Str → List Str := fun t => bear R t ++ if t ∈ pre then [nm] else []
theorem bfi_snoc {R : NW} {nm y : Str} {pre : List Str} (h : ¬ y ∈ pre) (t : Str) : bfi R nm (pre ++ [y]) t = putB (bfi R nm pre) y (bfi R nm pre y ++ [nm]) t := by
  by_cases e : t = y
  · subst e
    rw [putB_same]
    unfold bfi
    rw [if_neg h, if_pos (List.mem_append_right _ List.mem_cons_self), List.append_nil]
  · rw [putB_ne e]
    unfold bfi
    have : t ∈ pre ++ [y] ↔ t ∈ pre := by rw [List.mem_append, List.mem_singleton]; exact ⟨fun z => z.elim id fun q => absurd q e, .inl⟩
    by_cases z : t ∈ pre
    · rw [if_pos z, if_pos (this.mpr z)]
    · rw [if_neg z, if_neg fun q => z (this.mp q)]
noncomputable def bft (R : NW) (nm : Str) (pre : List Str) : Str → List Str := fun t => if t ∈ pre then (bear R t).filter fun m => decide (m ≠ nm) else bear R t
theorem bft_snoc {R : NW} {nm y : Str} {pre : List Str} (t : Str) : bft R nm (pre ++ [y]) t = putB (bft R nm pre) y ((bear R y).filter fun m => decide (m ≠ nm)) t := by
  by_cases e : t = y
  · subst e
    rw [putB_same]
    exact if_pos (List.mem_append_right _ List.mem_cons_self)
  · rw [putB_ne e]
    unfold bft
    have : t ∈ pre ++ [y] ↔ t ∈ pre := by rw [List.mem_append, List.mem_singleton]; exact ⟨fun z => z.elim id fun q => absurd q e, .inl⟩
    by_cases z : t ∈ pre
    · rw [if_pos z, if_pos (this.mpr z)]
    · rw [if_neg z, if_neg fun q => z (this.mp q)]
theorem nw_snoc (rows : List IRow) (r : IRow) : nwOf (rows ++ [r]) = nwOf rows ++ [(r.1, r.2.2)] := by unfold nwOf; rw [List.map_append]; rfl
theorem nw_noN (rows : List IRow) (nm : Str) : nwOf (rows.filter fun r => decide (r.1 ≠ nm)) = noN (nwOf rows) nm := by
  unfold nwOf noN
  rw [List.filter_map]
  rfl
theorem pick_i {xs : List Str} {i : Nat} {v : V} (h : (xs.map V.str)[i]? = some v) : ∃ y, xs[i]? = some y ∧ v = V.str y := by
  rw [List.getElem?_map] at h
  cases e : xs[i]? with
  | none => rw [e] at h; cases h
  | some t => rw [e] at h; exact ⟨t, rfl, (Option.some.inj h).symm⟩
theorem take_one {xs : List Str} {i : Nat} {y : Str} (h : xs[i]? = some y) : xs.take (i + 1) = xs.take i ++ [y] := by rw [List.take_add_one, h]; rfl
theorem nd_pre {xs : List Str} {i : Nat} {y : Str} (nd : xs.Nodup) (h : xs[i]? = some y) : ¬ y ∈ xs.take i := fun z => by
  have h1 : (xs.take i ++ [y]).Nodup := by rw [← take_one h]; exact nd.sublist (List.take_sublist _ _)
  rw [List.nodup_append] at h1
  exact h1.2.2 y z y List.mem_cons_self rfl
section
variable {P : Program} {w : World} {K : PySem.W.Frag} {mg : Str → Option Value} {base : Heap} {a : Adr}
theorem ok_iadd {fd : FuncData} (F : Fun K "add" "Index.add" sIndex_add a.f_Index_add fd) (T : Txt K mg a) (FF : Funs K a) : FnOk P w K mg base CX0 2 a.f_Index_add fd ["self", "name", "words"] (spIAdd a) := by
  obtain ⟨fdC, F_check_new, b_check_new⟩ := FF.F_check_new
  have G_check_new : FnOk P w K mg base CX0 1 a.f_check_new fdC ["name", "there"] spNewD := ok_new F_check_new T
  refine F.ok sc_Index_add (fun vs H Q E h => ?_) (fun cdv A outer st H vs Q E hr h => ?_)
  · obtain ⟨x, p, R, W, n, F, nm, ss, rfl, _⟩ := h; rfl
  · obtain ⟨x, p, R, W, n, F, nm, ss, rfl, ⟨dx, E, B, rows, bs, i, rfl, hRn, rfl⟩, hn40, hnm, hp, hW, hss, k⟩ := h
    have hu := hu_of hr
    have hr_check_new : Room 1 _ := hr
    rw [nw_names] at hnm
    rw [nw_len] at hRn
    have hwf := i.wf
    have hdd := dd_len ss
    have hv0 : valV (entK rows) (Sum.inr nm) = none := dG_none hnm
    refine ⟨_, (pss_cons (ps_expr (pe_call G_check_new hr_check_new rfl T.m_check_new F_check_new.kp b_check_new .nil pass0 (pac (pv 1) (pac (pe_fld (pv 0) rfl) pa_nil))))
        (pss_cons (ps_dput hu (pe_fld (pv 0) rfl) (pv 1) (pe_callB (call_sorted_set rfl) rfl T.b_sorted PyProof.Rows.boot_sorted (pac (pe_callTy (call_setAny rfl) rfl T.b_set PyProof.Rows.boot_set (pac (pv 2) pa_nil)) pa_nil)) rfl)
        (pss_one (ps_for PassesOwn.never rfl (pi_list (pe_dget hu (pe_fld (pv 0) rfl) (pv 1) (fun _ _ => rfl))) (pg_name (i := 3) sc_Index_add.nd rfl (Or.inl rfl)) (pss_cons (ps_if (pt_cmp (pc_dnotin hu (pv 3) (pe_fld (pv 0) rfl))) (pss_one (ps_dput hu (pe_fld (pv 0) rfl) (pv 3) pe_dnewK rfl)) pss_nil)
        (pss_one (ps_dput hu (pe_dget hu (pe_fld (pv 0) rfl) (pv 3) (fun _ _ => rfl)) (pv 1) pe_bl rfl))))))), ?_⟩
    refine ⟨_, rfl, _, rfl, x, _, dx, _, _, rfl, i.obj, T.c_Index, T.n_Index_entries, flds_ent E B, nm, E, _, rfl, i.en, hv0, ?_⟩
    refine ⟨_, rfl, p, ss, rfl, .inl (SqL.of hp), by omega, fun u hu0 => ⟨u, dd ss, rfl, upd_same, by omega, fun l hl => ?_⟩⟩
    have s1 : Same H (upd H u (SetO P w u (dd ss))) := Same.upd_new hu0
    have l0 : H l = none := s1.free hl
    have s2 : Same H (upd (upd H u (SetO P w u (dd ss))) l (.lst ((SS ss).map V.str))) := s1.upd_of l0
    have l2 : (upd (upd H u (SetO P w u (dd ss))) l (.lst ((SS ss).map V.str))) l = some (.lst ((SS ss).map V.str)) := upd_same
    refine ⟨_, rfl, x, _, dx, _, _, rfl, s2 _ _ i.obj, T.c_Index, T.n_Index_entries, flds_ent E B, _, rfl, E, _, rfl, DPut.k (k := Sum.inr nm) (s2 _ _ i.en) (by rw [dG_len]; exact small1000 (by omega)), ?_⟩
    rw [dG_put ((nm, l, SS ss) : IRow) hnm rfl rfl]
    have xE : x ≠ E := ne_of i.obj i.en fun z => nomatch z
    have lE : l ≠ E := (ne_of_none i.en l0).symm
    have obj3 : (upd (upd (upd H u (SetO P w u (dd ss))) l (.lst ((SS ss).map V.str))) E (.dK (entK (rows ++ [((nm, l, SS ss) : IRow)])))) x = some (.ins a.C_Index dx [("entries", .ref E), ("bearers", .ref B)]) := by rw [upd_ne xE]; exact s2 _ _ i.obj
    have en3 : (upd (upd (upd H u (SetO P w u (dd ss))) l (.lst ((SS ss).map V.str))) E (.dK (entK (rows ++ [((nm, l, SS ss) : IRow)])))) E = some (.dK (entK (rows ++ [((nm, l, SS ss) : IRow)]))) := upd_same
    have br3 : (upd (upd (upd H u (SetO P w u (dd ss))) l (.lst ((SS ss).map V.str))) E (.dK (entK (rows ++ [((nm, l, SS ss) : IRow)])))) B = some (.dK (brK bs)) := by rw [upd_ne i.eb.symm]; exact s2 _ _ i.br
    have l3 : (upd (upd (upd H u (SetO P w u (dd ss))) l (.lst ((SS ss).map V.str))) E (.dK (entK (rows ++ [((nm, l, SS ss) : IRow)])))) l = some (.lst ((SS ss).map V.str)) := by rw [upd_ne lE]; exact l2
    have ls3 : ∀ r ∈ rows, (upd (upd (upd H u (SetO P w u (dd ss))) l (.lst ((SS ss).map V.str))) E (.dK (entK (rows ++ [((nm, l, SS ss) : IRow)])))) r.2.1 = some (.lst (r.2.2.map V.str)) := fun r hr => by
      rw [upd_ne (ne_of (i.ls r hr).1 i.en fun z => nomatch z)]; exact s2 _ _ (i.ls r hr).1
    have bd3 : BD (upd (upd (upd H u (SetO P w u (dd ss))) l (.lst ((SS ss).map V.str))) E (.dK (entK (rows ++ [((nm, l, SS ss) : IRow)])))) E B bs (bfi (nwOf rows) nm []) W := i.bd.congr (fun q hq o e => by rw [upd_ne (i.bd.at_ q hq).2.1]; exact s2 _ _ e) fun t => by
      show bear (nwOf rows) t ++ (if t ∈ ([] : List Str) then [nm] else []) = _
      rw [if_neg (fun z => nomatch z), List.append_nil]
    have kp3 : KpF (ftp E B rows bs) H (upd (upd (upd H u (SetO P w u (dd ss))) l (.lst ((SS ss).map V.str))) E (.dK (entK (rows ++ [((nm, l, SS ss) : IRow)])))) := KpF.upd (fun c o _ e => s2 c o e) (.inl (mem_ftp.mpr (.inl rfl)))
    show tSeq _ _ _ _ (upd (upd (upd H u (SetO P w u (dd ss))) l (.lst ((SS ss).map V.str))) E (.dK (entK (rows ++ [((nm, l, SS ss) : IRow)]))))
    generalize upd (upd (upd H u (SetO P w u (dd ss))) l (.lst ((SS ss).map V.str))) E (.dK (entK (rows ++ [((nm, l, SS ss) : IRow)]))) = H3 at obj3 en3 br3 l3 ls3 bd3 kp3
    have nd3 : ((rows ++ [((nm, l, SS ss) : IRow)]).map (·.1)).Nodup := by rw [List.map_append]; exact snoc_nodup i.nd hnm
    have hv3 : valV (entK (rows ++ [((nm, l, SS ss) : IRow)])) (Sum.inr nm) = some (V.ref l) := dG_some (r := ((nm, l, SS ss) : IRow)) nd3 (List.mem_append_right _ List.mem_cons_self)
    have hfew := i.few
    have ndS := SS_nd ss
    refine ⟨_, rfl, x, _, dx, _, _, rfl, obj3, T.c_Index, T.n_Index_entries, flds_ent E B, _, rfl, E, _, rfl, (by rw [← hv3]; exact DGet.k (k := Sum.inr nm) en3), l, rfl, ⟨_, SqL.of l3⟩, for_list (K := K) (a := l) (xs := (SS ss).map V.str)
      (fun j σ H4 => Ex2 fun (bs4 : List (Str × Addr)) (o : Option V) => And9 (σ = [some (.ref x), some (.str nm), some (.ref p), o]) (H4 x = some (.ins a.C_Index dx [("entries", .ref E), ("bearers", .ref B)])) (H4 E = some (.dK (entK (rows ++ [((nm, l, SS ss) : IRow)])))) (H4 B = some (.dK (brK bs4))) (H4 l = some (.lst ((SS ss).map V.str))) ((∀ r ∈ rows, H4 r.2.1 = some (.lst (r.2.2.map V.str)))) (BD H4 E B bs4 (bfi (nwOf rows) nm ((SS ss).take j)) W) (KpF (ftp E B rows bs) H H4) ((∀ q ∈ bs4, q.2 ∈ ftp E B rows bs ∨ H q.2 = none)))
      ⟨bs, none, rfl, obj3, en3, br3, l3, ls3, by rw [List.take_zero]; exact bd3, kp3, fun q hq => .inl (mem_ftp.mpr (.inr (.inr (.inl (List.mem_map.mpr ⟨q, hq, rfl⟩)))))⟩ ?_ ?_ ?_⟩
    · rintro j σ H4 _ ⟨bs4, o, rfl, obj4, en4, br4, l4, ls4, bd4, kp4, in4⟩
      exact SqL.of l4
    · rintro j v σ H4 hv ⟨bs4, o, rfl, obj4, en4, br4, l4, ls4, bd4, kp4, in4⟩
      obtain ⟨y, hy, rfl⟩ := pick_i hv
      have ym : y ∈ SS ss := List.mem_of_getElem? hy
      have yW : y ∈ W := hW y (mem_SS.mp ym)
      have npre := nd_pre ndS hy
      have hl4 := bd4.len
      have hBF : B ∈ ftp E B rows bs := mem_ftp.mpr (.inr (.inl rfl))
      refine ⟨_, rfl, _, rfl, x, _, dx, _, _, rfl, obj4, T.c_Index, T.n_Index_bearers, flds_bea E B, B, _, rfl, DGet.k (k := Sum.inr y) br4, _, rfl, ?_⟩
      by_cases hyb : y ∈ bs4.map (·.1)
      · obtain ⟨d, hd⟩ := bd_find hyb
        have hvd : valV (brK bs4) (Sum.inr y) = some (V.ref d) := dG_some (r := ((y, d) : Str × Addr)) bd4.nd hd
        obtain ⟨ed, dE, dB, _, _⟩ := bd4.at_ _ hd
        have ed : H4 d = some (.dK (keysT (bfi (nwOf rows) nm ((SS ss).take j) y))) := ed
        rw [hvd]
        have nrep : ¬ nm ∈ bfi (nwOf rows) nm ((SS ss).take j) y := fun z => by
          unfold bfi at z
          rw [if_neg npre, List.append_nil] at z
          exact hnm (by rw [← nw_names]; exact bear_sub z)
        have lenb : (bfi (nwOf rows) nm ((SS ss).take j) y).length ≤ 40 := by
          unfold bfi
          rw [if_neg npre, List.append_nil]
          have := bear_len (nwOf rows) y
          rw [nw_len] at this
          omega
        refine iteF ⟨_, rfl, x, _, dx, _, _, rfl, obj4, T.c_Index, T.n_Index_bearers, flds_bea E B, _, rfl, B, _, rfl, (by rw [← hvd]; exact DGet.k (k := Sum.inr y) br4), _, rfl, d, _, rfl, DPut.k (k := Sum.inr nm) ed (by rw [keysT, List.length_map]; exact small1000 (by omega)), ?_⟩
        rw [put_keys nrep]
        have xd : x ≠ d := ne_of obj4 ed fun z => nomatch z
        have ld : l ≠ d := ne_of l4 ed fun z => nomatch z
        refine ⟨bs4, _, rfl, by rw [upd_ne xd]; exact obj4, by rw [upd_ne dE.symm]; exact en4, by rw [upd_ne dB.symm]; exact br4, by rw [upd_ne ld]; exact l4, fun r hr => by rw [upd_ne (ne_of (ls4 r hr) ed fun z => nomatch z)]; exact ls4 r hr, ?_, kp4.upd (in4 _ hd), in4⟩
        rw [take_one hy]
        exact (bd4.set hd (by simp) (fun q _ ne o e => by rw [upd_ne ne]; exact e) upd_same).congr (fun _ _ _ e => e) fun t => bfi_snoc npre t
      · have hvd : valV (brK bs4) (Sum.inr y) = none := dG_none hyb
        rw [hvd]
        refine iteT ?_
        intro d hd0
        have xd : x ≠ d := ne_of_none obj4 hd0
        have Ed : E ≠ d := ne_of_none en4 hd0
        have Bd : B ≠ d := ne_of_none br4 hd0
        have ld : l ≠ d := ne_of_none l4 hd0
        have xB : x ≠ B := ne_of obj4 br4 fun z => nomatch z
        have lB : l ≠ B := ne_of l4 br4 fun z => nomatch z
        have dn : d ∈ ftp E B rows bs ∨ H d = none := by
          cases e : H d with
          | none => exact .inr rfl
          | some o =>
            by_cases hin : d ∈ ftp E B rows bs
            · exact .inl hin
            · have := kp4 d o hin e
              rw [hd0] at this
              cases this
        refine ⟨_, rfl, x, _, dx, _, _, rfl, (by rw [upd_ne xd]; exact obj4), T.c_Index, T.n_Index_bearers, flds_bea E B, _, rfl, B, _, rfl, DPut.k (k := Sum.inr y) (by rw [upd_ne Bd]; exact br4) (by rw [dG_len]; exact small1000 (by omega)), ?_⟩
        rw [dG_put ((y, d) : Str × Addr) hyb rfl rfl]
        have nd5 : ((bs4 ++ [((y, d) : Str × Addr)]).map (·.1)).Nodup := by rw [List.map_append]; exact snoc_nodup bd4.nd hyb
        have hv5 : valV (brK (bs4 ++ [((y, d) : Str × Addr)])) (Sum.inr y) = some (V.ref d) := dG_some (r := ((y, d) : Str × Addr)) nd5 (List.mem_append_right _ List.mem_cons_self)
        have br5 : (upd (upd H4 d (.dK [])) B (.dK (brK (bs4 ++ [((y, d) : Str × Addr)])))) B = some (.dK (brK (bs4 ++ [((y, d) : Str × Addr)]))) := upd_same
        have d5 : (upd (upd H4 d (.dK [])) B (.dK (brK (bs4 ++ [((y, d) : Str × Addr)])))) d = some (.dK []) := by rw [upd_ne Bd.symm]; exact upd_same
        refine ⟨_, rfl, x, _, dx, _, _, rfl, (by rw [upd_ne xB, upd_ne xd]; exact obj4), T.c_Index, T.n_Index_bearers, flds_bea E B, _, rfl, B, _, rfl, (by rw [← hv5]; exact DGet.k (k := Sum.inr y) br5), _, rfl, d, _, rfl, DPut.k (k := Sum.inr nm) d5 (by decide), ?_⟩
        have ek : putK ([] : List (Key × V)) (Sum.inr nm) (.bl true) = keysT [nm] := rfl
        rw [ek]
        have e0 : bfi (nwOf rows) nm ((SS ss).take j) y = [] := bd4.no_ y hyb
        refine ⟨bs4 ++ [((y, d) : Str × Addr)], _, rfl, by rw [upd_ne xd, upd_ne xB, upd_ne xd]; exact obj4, by rw [upd_ne Ed, upd_ne i.eb, upd_ne Ed]; exact en4, by rw [upd_ne Bd]; exact upd_same, by rw [upd_ne ld, upd_ne lB, upd_ne ld]; exact l4, fun r hr => ?_, ?_, ((kp4.upd dn).upd (.inl hBF)).upd dn, fun q hq => ?_⟩
        · rw [upd_ne (ne_of_none (ls4 r hr) hd0), upd_ne (ne_of (ls4 r hr) br4 fun z => nomatch z), upd_ne (ne_of_none (ls4 r hr) hd0)]
          exact ls4 r hr
        · rw [take_one hy]
          refine (bd4.new (p := d) (ys := bfi (nwOf rows) nm ((SS ss).take j) y ++ [nm]) hyb (fun z => ?_) Ed.symm Bd.symm yW (by simp) (fun q hq o e => ?_) ?_).congr (fun _ _ _ e => e) fun t => bfi_snoc npre t
          · obtain ⟨q, hq, eq⟩ := List.mem_map.mp z
            have := (bd4.at_ q hq).1
            rw [eq, hd0] at this
            cases this
          · rw [upd_ne (ne_of_none e hd0), upd_ne (bd4.at_ q hq).2.2.1, upd_ne (ne_of_none e hd0)]
            exact e
          · rw [e0, upd_same]; rfl
        · rcases List.mem_append.mp hq with z | z
          · exact in4 q z
          · rw [List.mem_singleton.mp z]; exact dn
    · rintro σ H4 ⟨bs4, o, rfl, obj4, en4, br4, l4, ls4, bd4, kp4, in4⟩
      rw [List.length_map, List.take_length] at bd4
      refine k H4 (ftp E B (rows ++ [((nm, l, SS ss) : IRow)]) bs4) ⟨dx, E, B, rows ++ [((nm, l, SS ss) : IRow)], bs4, ⟨obj4, en4, br4, i.eb, fun r hr => ?_, nd3, by rw [List.length_append, List.length_singleton]; omega, i.wf, bd4.congr (fun _ _ _ e => e) fun t => ?_⟩, nw_snoc _ _, ?_, rfl⟩ kp4 fun c hc => ?_
      · rcases List.mem_append.mp hr with z | z
        · exact ⟨ls4 r z, (i.ls r z).2⟩
        · rw [List.mem_singleton.mp z]
          exact ⟨l4, SS_idem ss, fun y hy => hW y (mem_SS.mp hy)⟩
      · rw [nw_snoc]
        exact bear_snoc _ _ _ _
      · rw [List.length_append, List.length_singleton, nw_len]; omega
      · rcases mem_ftp.mp hc with z | z | z | z
        · exact .inl (mem_ftp.mpr (.inl z))
        · exact .inl (mem_ftp.mpr (.inr (.inl z)))
        · obtain ⟨q, hq, rfl⟩ := List.mem_map.mp z
          exact in4 q hq
        · rw [List.map_append] at z
          rcases List.mem_append.mp z with y | y
          · exact .inl (mem_ftp.mpr (.inr (.inr (.inr y))))
          · rw [List.mem_singleton.mp y]; exact .inr l0
end
section
variable {P : Program} {w : World} {K : PySem.W.Frag} {mg : Str → Option Value} {base : Heap} {a : Adr}
theorem ok_itake {fd : FuncData} (F : Fun K "take_out" "Index.take_out" sIndex_take_out a.f_Index_take_out fd) (T : Txt K mg a) (FF : Funs K a) : FnOk P w K mg base CX0 2 a.f_Index_take_out fd ["self", "name"] (spITake a) := by
  obtain ⟨fdC, F_check_there, b_check_there⟩ := FF.F_check_there
  have G_check_there : FnOk P w K mg base CX0 1 a.f_check_there fdC ["name", "there"] spThereD := ok_there F_check_there T
  refine F.ok sc_Index_take_out (fun vs H Q E h => ?_) (fun cdv A outer st H vs Q E hr h => ?_)
  · obtain ⟨x, R, W, n, F, nm, rfl, _⟩ := h; rfl
  · obtain ⟨x, R, W, n, F, nm, rfl, ⟨dx, E, B, rows, bs, i, rfl, hRn, rfl⟩, hm, k⟩ := h
    have hu := hu_of hr
    have hr_check_there : Room 1 _ := hr
    obtain ⟨r0, hr0, e0⟩ := List.mem_map.mp hm
    obtain ⟨nm0, ws⟩ := r0
    obtain rfl : nm0 = nm := e0
    obtain ⟨l, hl⟩ := nw_find hr0
    have hnd : ((nwOf rows).map (·.1)).Nodup := by rw [nw_names]; exact i.nd
    have hv0 : valV (entK rows) (Sum.inr nm0) = some (V.ref l) := dG_some (r := ((nm0, l, ws) : IRow)) i.nd hl
    obtain ⟨el, eS, eW⟩ := i.ls _ hl
    have eS : SS ws = ws := eS
    refine ⟨_, (pss_cons (ps_expr (pe_call G_check_there hr_check_there rfl T.m_check_there F_check_there.kp b_check_there .nil pass0 (pac (pv 1) (pac (pe_fld (pv 0) rfl) pa_nil))))
        (pss_cons (ps_set (i := 2) sc_Index_take_out.nd rfl (Or.inl rfl) (pe_dpop1 (pe_fld (pv 0) rfl) (pv 1) ⟨rfl, rfl, rfl, rfl⟩))
        (pss_one (ps_for PassesOwn.never rfl (pi_list (pv 2)) (pg_name (i := 3) sc_Index_take_out.nd rfl (Or.inl rfl)) (pss_cons (ps_expr (pe_dpop1 (pe_dget hu (pe_fld (pv 0) rfl) (pv 3) (fun _ _ => rfl)) (pv 1) ⟨rfl, rfl, rfl, rfl⟩))
        (pss_one (ps_if (pt_not (pt_truth (pe_dget hu (pe_fld (pv 0) rfl) (pv 3) (fun _ _ => rfl)) (fun _ => rfl))) (pss_one (ps_expr (pe_dpop1 (pe_fld (pv 0) rfl) (pv 3) ⟨rfl, rfl, rfl, rfl⟩))) pss_nil))))))), ?_⟩
    refine ⟨_, rfl, _, rfl, x, _, dx, _, _, rfl, i.obj, T.c_Index, T.n_Index_entries, flds_ent E B, nm0, E, _, _, rfl, i.en, hv0, ?_⟩
    refine ⟨_, rfl, x, _, dx, _, _, rfl, i.obj, T.c_Index, T.n_Index_entries, flds_ent E B, E, rfl, .inl ⟨_, .inl i.en⟩, _, rfl, _, Sum.inr nm0, .ref l, i.en, rfl, hv0, ?_⟩
    rw [dG_drop]
    have xE : x ≠ E := ne_of i.obj i.en fun z => nomatch z
    have obj3 : (upd H E (.dK (entK (rows.filter fun r => decide (r.1 ≠ nm0))))) x = some (.ins a.C_Index dx [("entries", .ref E), ("bearers", .ref B)]) := by rw [upd_ne xE]; exact i.obj
    have en3 : (upd H E (.dK (entK (rows.filter fun r => decide (r.1 ≠ nm0))))) E = some (.dK (entK (rows.filter fun r => decide (r.1 ≠ nm0)))) := upd_same
    have br3 : (upd H E (.dK (entK (rows.filter fun r => decide (r.1 ≠ nm0))))) B = some (.dK (brK bs)) := by rw [upd_ne i.eb.symm]; exact i.br
    have ls3 : ∀ r ∈ rows, (upd H E (.dK (entK (rows.filter fun r => decide (r.1 ≠ nm0))))) r.2.1 = some (.lst (r.2.2.map V.str)) := fun r hr => by
      rw [upd_ne (ne_of (i.ls r hr).1 i.en fun z => nomatch z)]; exact (i.ls r hr).1
    have bd3 : BD (upd H E (.dK (entK (rows.filter fun r => decide (r.1 ≠ nm0))))) E B bs (bft (nwOf rows) nm0 []) W := i.bd.congr (fun q hq o e => by rw [upd_ne (i.bd.at_ q hq).2.1]; exact e) fun t => if_neg fun z => nomatch z
    have kp3 : KpF (ftp E B rows bs) H (upd H E (.dK (entK (rows.filter fun r => decide (r.1 ≠ nm0))))) := KpF.upd (fun c o _ e => e) (.inl (mem_ftp.mpr (.inl rfl)))
    show tSeq _ _ _ _ (upd H E (.dK (entK (rows.filter fun r => decide (r.1 ≠ nm0)))))
    generalize upd H E (.dK (entK (rows.filter fun r => decide (r.1 ≠ nm0)))) = H3 at obj3 en3 br3 ls3 bd3 kp3
    have ndS : ws.Nodup := by rw [← eS]; exact SS_nd ws
    refine ⟨_, rfl, l, rfl, ⟨_, SqL.of (ls3 _ hl)⟩, for_list (K := K) (a := l) (xs := ws.map V.str)
      (fun j σ H4 => Ex2 fun (bs4 : List (Str × Addr)) (o : Option V) => And8 (σ = [some (.ref x), some (.str nm0), some (.ref l), o]) (H4 x = some (.ins a.C_Index dx [("entries", .ref E), ("bearers", .ref B)])) (H4 E = some (.dK (entK (rows.filter fun r => decide (r.1 ≠ nm0))))) (H4 B = some (.dK (brK bs4))) ((∀ r ∈ rows, H4 r.2.1 = some (.lst (r.2.2.map V.str)))) (BD H4 E B bs4 (bft (nwOf rows) nm0 (ws.take j)) W) (KpF (ftp E B rows bs) H H4) ((∀ q ∈ bs4, q ∈ bs)))
      ⟨bs, none, rfl, obj3, en3, br3, ls3, by rw [List.take_zero]; exact bd3, kp3, fun q hq => hq⟩ ?_ ?_ ?_⟩
    · rintro j σ H4 _ ⟨bs4, o, rfl, obj4, en4, br4, ls4, bd4, kp4, in4⟩
      exact SqL.of (ls4 _ hl)
    · rintro j v σ H4 hv ⟨bs4, o, rfl, obj4, en4, br4, ls4, bd4, kp4, in4⟩
      obtain ⟨y, hy, rfl⟩ := pick_i hv
      have ym : y ∈ ws := List.mem_of_getElem? hy
      have npre := nd_pre ndS hy
      have hbe : bft (nwOf rows) nm0 (ws.take j) y = bear (nwOf rows) y := if_neg npre
      have hin : nm0 ∈ bear (nwOf rows) y := bear_mem.mpr ⟨ws, hr0, ym⟩
      have hyb : y ∈ bs4.map (·.1) := Classical.byContradiction fun z => by
        have := bd4.no_ y z
        rw [hbe] at this
        rw [this] at hin
        cases hin
      obtain ⟨d, hd⟩ := bd_find hyb
      have hvd : valV (brK bs4) (Sum.inr y) = some (V.ref d) := dG_some (r := ((y, d) : Str × Addr)) bd4.nd hd
      obtain ⟨ed, dE, dB, _, _⟩ := bd4.at_ _ hd
      have ed : H4 d = some (.dK (keysT (bear (nwOf rows) y))) := by rw [ed]; show some (HO.dK (keysT (bft (nwOf rows) nm0 (ws.take j) y))) = _; rw [hbe]
      have xd : x ≠ d := ne_of obj4 ed fun z => nomatch z
      have xB : x ≠ B := ne_of obj4 br4 fun z => nomatch z
      have hdF : d ∈ ftp E B rows bs := mem_ftp.mpr (.inr (.inr (.inl (List.mem_map.mpr ⟨_, in4 _ hd, rfl⟩))))
      have hBF : B ∈ ftp E B rows bs := mem_ftp.mpr (.inr (.inl rfl))
      refine ⟨_, rfl, x, _, dx, _, _, rfl, obj4, T.c_Index, T.n_Index_bearers, flds_bea E B, _, rfl, B, _, rfl, (by rw [← hvd]; exact DGet.k (k := Sum.inr y) br4), d, rfl, .inl ⟨_, .inl ed⟩, _, rfl, _, Sum.inr nm0, .bl true, ed, rfl, (by rw [val_keys, if_pos hin]), ?_⟩
      rw [drop_keys]
      have obj5 : (upd H4 d (.dK (keysT ((bear (nwOf rows) y).filter fun m => decide (m ≠ nm0))))) x = some (.ins a.C_Index dx [("entries", .ref E), ("bearers", .ref B)]) := by rw [upd_ne xd]; exact obj4
      have en5 : (upd H4 d (.dK (keysT ((bear (nwOf rows) y).filter fun m => decide (m ≠ nm0))))) E = some (.dK (entK (rows.filter fun r => decide (r.1 ≠ nm0)))) := by rw [upd_ne dE.symm]; exact en4
      have br5 : (upd H4 d (.dK (keysT ((bear (nwOf rows) y).filter fun m => decide (m ≠ nm0))))) B = some (.dK (brK bs4)) := by rw [upd_ne dB.symm]; exact br4
      have d5 : (upd H4 d (.dK (keysT ((bear (nwOf rows) y).filter fun m => decide (m ≠ nm0))))) d = some (.dK (keysT ((bear (nwOf rows) y).filter fun m => decide (m ≠ nm0)))) := upd_same
      have ls5 : ∀ r ∈ rows, (upd H4 d (.dK (keysT ((bear (nwOf rows) y).filter fun m => decide (m ≠ nm0))))) r.2.1 = some (.lst (r.2.2.map V.str)) := fun r hr => by rw [upd_ne (ne_of (ls4 r hr) ed fun z => nomatch z)]; exact ls4 r hr
      have kp5 : KpF (ftp E B rows bs) H (upd H4 d (.dK (keysT ((bear (nwOf rows) y).filter fun m => decide (m ≠ nm0))))) := kp4.upd (.inl hdF)
      have ot5 : ∀ q ∈ bs4, q.2 ≠ d → ∀ o, H4 q.2 = some o → (upd H4 d (.dK (keysT ((bear (nwOf rows) y).filter fun m => decide (m ≠ nm0))))) q.2 = some o := fun q _ ne o e => by rw [upd_ne ne]; exact e
      show tSeq _ _ _ _ (upd H4 d (.dK (keysT ((bear (nwOf rows) y).filter fun m => decide (m ≠ nm0)))))
      generalize upd H4 d (.dK (keysT ((bear (nwOf rows) y).filter fun m => decide (m ≠ nm0)))) = H5 at obj5 en5 br5 d5 ls5 kp5 ot5
      refine ⟨_, rfl, x, _, dx, _, _, rfl, obj5, T.c_Index, T.n_Index_bearers, flds_bea E B, _, rfl, B, .ref d, rfl, (by rw [← hvd]; exact DGet.k (k := Sum.inr y) br5), !(keysT ((bear (nwOf rows) y).filter fun m => decide (m ≠ nm0))).isEmpty, Or.inr (Or.inr ⟨_, d5, rfl⟩), ?_⟩
      cases hys : (bear (nwOf rows) y).filter fun m => decide (m ≠ nm0) with
      | cons z zs =>
        refine iteF ⟨bs4, _, rfl, obj5, en5, br5, ls5, ?_, kp5, in4⟩
        rw [take_one hy]
        rw [hys] at d5
        refine (bd4.set hd (ys := z :: zs) (by simp) ot5 d5).congr (fun _ _ _ e => e) fun t => ?_
        rw [bft_snoc, hys]
      | nil =>
        refine iteT ⟨_, rfl, x, _, dx, _, _, rfl, obj5, T.c_Index, T.n_Index_bearers, flds_bea E B, B, rfl, .inl ⟨_, .inl br5⟩, _, rfl, _, Sum.inr y, .ref d, br5, rfl, hvd, ?_⟩
        rw [dG_drop]
        refine ⟨bs4.filter fun r => decide (r.1 ≠ y), _, rfl, by rw [upd_ne xB]; exact obj5, by rw [upd_ne i.eb]; exact en5, upd_same, fun r hr => by rw [upd_ne (ne_of (ls5 r hr) br5 fun z => nomatch z)]; exact ls5 r hr, ?_, kp5.upd (.inl hBF), fun q hq => in4 q (List.mem_filter.mp hq).1⟩
        rw [take_one hy]
        refine (bd4.del hd fun q hq ne o e => ?_).congr (fun _ _ _ e => e) fun t => ?_
        · rw [upd_ne (bd4.at_ q hq).2.2.1]; exact ot5 q hq ne o e
        · rw [bft_snoc, hys]
    · rintro σ H4 ⟨bs4, o, rfl, obj4, en4, br4, ls4, bd4, kp4, in4⟩
      rw [List.length_map, List.take_length] at bd4
      have hfl : (rows.filter fun r => decide (r.1 ≠ nm0)).length ≤ rows.length := List.length_filter_le _ _
      have hfew := i.few
      rw [nw_len] at hRn
      refine k H4 (ftp E B (rows.filter fun r => decide (r.1 ≠ nm0)) bs4) ⟨dx, E, B, _, bs4, ⟨obj4, en4, br4, i.eb, fun r hr => ⟨ls4 r (List.mem_filter.mp hr).1, (i.ls r (List.mem_filter.mp hr).1).2⟩, i.nd.sublist (List.filter_sublist.map _), by omega, i.wf, bd4.congr (fun _ _ _ e => e) fun t => ?_⟩, nw_noN _ _, by rw [← nw_noN, nw_len]; omega, rfl⟩ kp4 fun c hc => ?_
      · rw [nw_noN, bear_noN]
        by_cases ht : t ∈ ws
        · exact (if_pos ht).symm
        · have e : bft (nwOf rows) nm0 ws t = bear (nwOf rows) t := if_neg ht
          rw [e]
          refine List.filter_eq_self.mpr fun m hm => decide_eq_true fun z => ht ?_
          obtain ⟨ws2, h1, h2⟩ := bear_mem.mp hm
          rw [z] at h1
          rw [nw_one hnd hr0 h1]
          exact h2
      · rcases mem_ftp.mp hc with z | z | z | z
        · exact mem_ftp.mpr (.inl z)
        · exact mem_ftp.mpr (.inr (.inl z))
        · obtain ⟨q, hq, rfl⟩ := List.mem_map.mp z
          exact mem_ftp.mpr (.inr (.inr (.inl (List.mem_map.mpr ⟨q, in4 q hq, rfl⟩))))
        · obtain ⟨q, hq, rfl⟩ := List.mem_map.mp z
          exact mem_ftp.mpr (.inr (.inr (.inr (List.mem_map.mpr ⟨q, (List.mem_filter.mp hq).1, rfl⟩))))
end
inductive spNewX_I (a : Adr) (vs : List V) (H : Hp) (E : XK) : Prop
  | mk : ∀ (nm : Str) (L : Addr) (kvs : List (Key × V)) (v : V), vs = [.str nm, .ref L] → H L = some (.dK kvs) → valV kvs (Sum.inr nm) = some v → E (.ref a.C_NoName) none H → spNewX_I a vs H E
noncomputable def spNewX (a : Adr) : Sp := fun vs H _ E => spNewX_I a vs H E
inductive spThereV_I (a : Adr) (vs : List V) (H : Hp) (E : XK) : Prop
  | mk : ∀ (y : V) (L : Addr) (kvs : List (Key × V)), vs = [y, .ref L] → H L = some (.dK kvs) → MissV y kvs → E (.ref a.C_NoName) none H → spThereV_I a vs H E
noncomputable def spThereV (a : Adr) : Sp := fun vs H _ E => spThereV_I a vs H E
theorem miss_rows_int {rows : Rows} {i : Int} : MissV (.int i) (rowsK rows) := .inr ⟨Sum.inl i, rfl, by
  unfold rowsK
  induction rows with
  | nil => rfl
  | cons r rows ih => rw [List.map_cons]; exact (by first | exact ih | (simp only [valV, List.lookup] at ih ⊢; exact ih) | (unfold valV at ih ⊢; simpa [List.lookup] using ih))⟩
theorem miss_rows_str {rows : Rows} {nm : Str} (h : up rows nm = none) : MissV (.str nm) (rowsK rows) := .inr ⟨Sum.inr nm, rfl, by rw [val_rows, h]; rfl⟩
theorem miss_dG_int {α : Type} {f : α → Str} {g : α → V} {i : Int} {xs : List α} : MissV (.int i) (dG f g xs) := .inr ⟨Sum.inl i, rfl, by
  unfold dG
  induction xs with
  | nil => rfl
  | cons r rows ih => rw [List.map_cons]; exact (by first | exact ih | (simp only [valV, List.lookup] at ih ⊢; exact ih) | (unfold valV at ih ⊢; simpa [List.lookup] using ih))⟩
theorem miss_dG_str {α : Type} {f : α → Str} {g : α → V} {nm : Str} {xs : List α} (h : ¬ nm ∈ xs.map f) : MissV (.str nm) (dG f g xs) := .inr ⟨Sum.inr nm, rfl, dG_none h⟩
/- not among the names: a text that is none of them, a number, None -/
noncomputable def NotN (ts : List Str) (y : V) : Prop := y = .non ∨ (∃ i, y = .int i) ∨ ∃ nm, y = .str nm ∧ ¬ nm ∈ ts
theorem NotN.rows {rows : Rows} {y : V} (h : NotN (rows.map (·.1)) y) : MissV y (rowsK rows) := by
  rcases h with rfl | ⟨i, rfl⟩ | ⟨nm, rfl, h⟩
  · exact .inl rfl
  · exact miss_rows_int
  · exact miss_rows_str (up_none.mpr h)
theorem NotN.ents {rows : List IRow} {y : V} (h : NotN ((nwOf rows).map (·.1)) y) : MissV y (entK rows) := by
  rcases h with rfl | ⟨i, rfl⟩ | ⟨nm, rfl, h⟩
  · exact .inl rfl
  · exact miss_dG_int
  · exact miss_dG_str (by rw [nw_names] at h; exact h)
inductive spT2V_I (a : Adr) (vs : List V) (H : Hp) (E : XK) : Prop
  | mk : ∀ (x dx L R : Addr) (rows : Rows) (kr : List (Key × V)) (y : V), vs = [.ref x, y] → TH a H x dx L R rows kr → NotN (rows.map (·.1)) y → E (.ref a.C_NoName) none H → spT2V_I a vs H E
noncomputable def spT2V (a : Adr) : Sp := fun vs H _ E => spT2V_I a vs H E
inductive spTAddX_I (a : Adr) (vs : List V) (H : Hp) (E : XK) : Prop
  | mk : ∀ (x dx L R : Addr) (rows : Rows) (kr : List (Key × V)) (nm an : Str) (u : V), vs = [.ref x, .str nm, u] → TH a H x dx L R rows kr → up rows nm = some an → E (.ref a.C_NoName) none H → spTAddX_I a vs H E
noncomputable def spTAddX (a : Adr) : Sp := fun vs H _ E => spTAddX_I a vs H E
inductive spI2V_I (a : Adr) (vs : List V) (H : Hp) (E : XK) : Prop
  | mk : ∀ (x : Addr) (R : NW) (W : List Str) (n : Nat) (F : List Addr) (y : V), vs = [.ref x, y] → IXs a H x R W n F → NotN (R.map (·.1)) y → E (.ref a.C_NoName) none H → spI2V_I a vs H E
noncomputable def spI2V (a : Adr) : Sp := fun vs H _ E => spI2V_I a vs H E
inductive spIAddX_I (a : Adr) (vs : List V) (H : Hp) (E : XK) : Prop
  | mk : ∀ (x : Addr) (R : NW) (W : List Str) (n : Nat) (F : List Addr) (nm : Str) (u : V), vs = [.ref x, .str nm, u] → IXs a H x R W n F → nm ∈ R.map (·.1) → E (.ref a.C_NoName) none H → spIAddX_I a vs H E
noncomputable def spIAddX (a : Adr) : Sp := fun vs H _ E => spIAddX_I a vs H E
inductive spAddE_I (a : Adr) (vs : List V) (H : Hp) (Q : VK) : Prop
  | mk : ∀ (x dx L R : Addr) (rows : Rows) (nm : Str), vs = [.ref x, .str nm, .str ""] → TH a H x dx L R rows [] → rows.length < 40 → up rows nm = none → (∀ H', TH a H' x dx L R (rows ++ [(nm, ("" : Str))]) [] → KpF [L] H H' → Q .non H') → spAddE_I a vs H Q
noncomputable def spAddE (a : Adr) : Sp := fun vs H Q _ => spAddE_I a vs H Q
inductive spTakeE_I (a : Adr) (vs : List V) (H : Hp) (Q : VK) : Prop
  | mk : ∀ (x dx L R : Addr) (rows : Rows) (nm : Str), vs = [.ref x, .str nm] → TH a H x dx L R rows [] → up rows nm = some ("" : Str) → (∀ H', TH a H' x dx L R (without rows nm) [] → KpF [L] H H' → Q .non H') → spTakeE_I a vs H Q
noncomputable def spTakeE (a : Adr) : Sp := fun vs H Q _ => spTakeE_I a vs H Q
section
variable {P : Program} {w : World} {K : PySem.W.Frag} {mg : Str → Option Value} {base : Heap} {a : Adr}
theorem ok_newX {fd : FuncData} (F : Fun K "check_new" "check_new" scheck_new a.f_check_new fd) (T : Txt K mg a) : FnOk P w K mg base (CXF P w) 1 a.f_check_new fd ["name", "there"] (spNewX a) := by
  refine F.okX sc_check_new (fun vs H Q E h => ?_) (fun cdv A outer st H vs Q E hr h => ?_)
  · obtain ⟨nm, L, kvs, v, rfl, _⟩ := h; rfl
  · obtain ⟨nm, L, kvs, v, rfl, hL, hv, k⟩ := h
    have hu := hu_of hr
    refine ⟨_, (pss_one (ps_if (PW.pt (pw_or (pt_not (pt_val (pe_callB call_isinst rfl T.b_isinstance PyProof.Rows.boot_isinstance (pac (pv 0) (pac (pe_bltn (v := .ty "str") rfl T.b_str PyProof.Rows.boot_str rfl) pa_nil))))) (pw_or1 (pt_cmp (pc_din hu (pv 0) (pv 1)))))) (pss_one (ps_raise T.x_NoName T.mx_NoName hr.hd rfl (pac pe_str pa_nil))) pss_nil)), ?_⟩
    refine ⟨_, rfl, _, _, _, _, _, rfl, rfl, TyOf.str nm, kitSS, _, rfl, iteF ?_⟩
    refine ⟨_, rfl, _, rfl, L, _, rfl, DGet.k (k := Sum.inr nm) hL, _, rfl, ?_⟩
    rw [hv]
    exact iteT ⟨by show 1 ≤ sizeLine; decide, k⟩
theorem ok_thereV {fd : FuncData} (F : Fun K "check_there" "check_there" scheck_there a.f_check_there fd) (T : Txt K mg a) : FnOk P w K mg base (CXF P w) 1 a.f_check_there fd ["name", "there"] (spThereV a) := by
  refine F.okX sc_check_there (fun vs H Q E h => ?_) (fun cdv A outer st H vs Q E hr h => ?_)
  · obtain ⟨nm, L, kvs, rfl, _⟩ := h; rfl
  · obtain ⟨y, L, kvs, rfl, hL, hv, k⟩ := h
    have hu := hu_of hr
    refine ⟨_, (pss_one (ps_if (pt_cmp (pc_miss hu (pv 0) (pv 1))) (pss_one (ps_raise T.x_NoName T.mx_NoName hr.hd rfl (pac pe_str pa_nil))) pss_nil)), ?_⟩
    exact ⟨_, rfl, _, rfl, L, _, rfl, hL, hv, _, rfl, iteT ⟨by show 1 ≤ sizeLine; decide, k⟩⟩
theorem ok_vttake {fd : FuncData} (F : Fun K "take_out" "Threads.take_out" sThreads_take_out a.f_Threads_take_out fd) (T : Txt K mg a) (FF : Funs K a) : FnOk P w K mg base (CXF P w) 2 a.f_Threads_take_out fd ["self", "name"] (spT2V a) := by
  obtain ⟨fdC, F_check_there, b_check_there⟩ := FF.F_check_there
  have G_check_there : FnOk P w K mg base (CXF P w) 1 a.f_check_there fdC ["name", "there"] (spThereV a) := ok_thereV F_check_there T
  refine F.okX sc_Threads_take_out (fun vs H Q E h => ?_) (fun cdv A outer st H vs Q E hr h => ?_)
  · obtain ⟨x, dx, L, R, rows, kr, y, rfl, _⟩ := h; rfl
  · obtain ⟨x, dx, L, R, rows, kr, y, rfl, th, hnm, k⟩ := h
    have hr_check_there : Room 1 _ := hr
    refine ⟨_, (pss_cons (ps_expr (pe_callX (R := fun _ => E) G_check_there hr_check_there rfl T.m_check_there F_check_there.kp b_check_there .nil passF (pac (pv 1) (pac (pe_fld (pv 0) rfl) pa_nil)))) pss_never), ?_⟩
    exact ⟨_, rfl, _, rfl, x, _, dx, _, _, rfl, th.obj, T.c_Threads, T.n_Threads_links, flds_links L R, y, L, _, rfl, th.lk, hnm.rows, k⟩
theorem ok_vthread {fd : FuncData} (F : Fun K "thread" "Threads.thread" sThreads_thread a.f_Threads_thread fd) (T : Txt K mg a) (FF : Funs K a) : FnOk P w K mg base (CXF P w) 2 a.f_Threads_thread fd ["self", "name"] (spT2V a) := by
  obtain ⟨fdC, F_check_there, b_check_there⟩ := FF.F_check_there
  have G_check_there : FnOk P w K mg base (CXF P w) 1 a.f_check_there fdC ["name", "there"] (spThereV a) := ok_thereV F_check_there T
  refine F.okX sc_Threads_thread (fun vs H Q E h => ?_) (fun cdv A outer st H vs Q E hr h => ?_)
  · obtain ⟨x, dx, L, R, rows, kr, y, rfl, _⟩ := h; rfl
  · obtain ⟨x, dx, L, R, rows, kr, y, rfl, th, hnm, k⟩ := h
    have hr_check_there : Room 1 _ := hr
    refine ⟨_, (pss_cons (ps_expr (pe_callX (R := fun _ => E) G_check_there hr_check_there rfl T.m_check_there F_check_there.kp b_check_there .nil passF (pac (pv 1) (pac (pe_fld (pv 0) rfl) pa_nil)))) pss_never), ?_⟩
    exact ⟨_, rfl, _, rfl, x, _, dx, _, _, rfl, th.obj, T.c_Threads, T.n_Threads_links, flds_links L R, y, L, _, rfl, th.lk, hnm.rows, k⟩
theorem ok_vdepth {fd : FuncData} (F : Fun K "depth" "Threads.depth" sThreads_depth a.f_Threads_depth fd) (T : Txt K mg a) (FF : Funs K a) : FnOk P w K mg base (CXF P w) 2 a.f_Threads_depth fd ["self", "name"] (spT2V a) := by
  obtain ⟨fdC, F_check_there, b_check_there⟩ := FF.F_check_there
  have G_check_there : FnOk P w K mg base (CXF P w) 1 a.f_check_there fdC ["name", "there"] (spThereV a) := ok_thereV F_check_there T
  refine F.okX sc_Threads_depth (fun vs H Q E h => ?_) (fun cdv A outer st H vs Q E hr h => ?_)
  · obtain ⟨x, dx, L, R, rows, kr, y, rfl, _⟩ := h; rfl
  · obtain ⟨x, dx, L, R, rows, kr, y, rfl, th, hnm, k⟩ := h
    have hr_check_there : Room 1 _ := hr
    refine ⟨_, (pss_cons (ps_expr (pe_callX (R := fun _ => E) G_check_there hr_check_there rfl T.m_check_there F_check_there.kp b_check_there .nil passF (pac (pv 1) (pac (pe_fld (pv 0) rfl) pa_nil)))) pss_never), ?_⟩
    exact ⟨_, rfl, _, rfl, x, _, dx, _, _, rfl, th.obj, T.c_Threads, T.n_Threads_links, flds_links L R, y, L, _, rfl, th.lk, hnm.rows, k⟩
theorem ok_vitake {fd : FuncData} (F : Fun K "take_out" "Index.take_out" sIndex_take_out a.f_Index_take_out fd) (T : Txt K mg a) (FF : Funs K a) : FnOk P w K mg base (CXF P w) 2 a.f_Index_take_out fd ["self", "name"] (spI2V a) := by
  obtain ⟨fdC, F_check_there, b_check_there⟩ := FF.F_check_there
  have G_check_there : FnOk P w K mg base (CXF P w) 1 a.f_check_there fdC ["name", "there"] (spThereV a) := ok_thereV F_check_there T
  refine F.okX sc_Index_take_out (fun vs H Q E h => ?_) (fun cdv A outer st H vs Q E hr h => ?_)
  · obtain ⟨x, R, W, n, F, y, rfl, _⟩ := h; rfl
  · obtain ⟨x, R, W, n, F, y, rfl, ⟨dx, E1, B, rows, bs, i, rfl, _, rfl⟩, hnm, k⟩ := h
    have hr_check_there : Room 1 _ := hr
    refine ⟨_, (pss_cons (ps_expr (pe_callX (R := fun _ => E) G_check_there hr_check_there rfl T.m_check_there F_check_there.kp b_check_there .nil passF (pac (pv 1) (pac (pe_fld (pv 0) rfl) pa_nil)))) pss_never), ?_⟩
    exact ⟨_, rfl, _, rfl, x, _, dx, _, _, rfl, i.obj, T.c_Index, T.n_Index_entries, flds_ent E1 B, y, E1, _, rfl, i.en, hnm.ents, k⟩
theorem ok_vwords {fd : FuncData} (F : Fun K "words" "Index.words" sIndex_words a.f_Index_words fd) (T : Txt K mg a) (FF : Funs K a) : FnOk P w K mg base (CXF P w) 2 a.f_Index_words fd ["self", "name"] (spI2V a) := by
  obtain ⟨fdC, F_check_there, b_check_there⟩ := FF.F_check_there
  have G_check_there : FnOk P w K mg base (CXF P w) 1 a.f_check_there fdC ["name", "there"] (spThereV a) := ok_thereV F_check_there T
  refine F.okX sc_Index_words (fun vs H Q E h => ?_) (fun cdv A outer st H vs Q E hr h => ?_)
  · obtain ⟨x, R, W, n, F, y, rfl, _⟩ := h; rfl
  · obtain ⟨x, R, W, n, F, y, rfl, ⟨dx, E1, B, rows, bs, i, rfl, _, rfl⟩, hnm, k⟩ := h
    have hr_check_there : Room 1 _ := hr
    refine ⟨_, (pss_cons (ps_expr (pe_callX (R := fun _ => E) G_check_there hr_check_there rfl T.m_check_there F_check_there.kp b_check_there .nil passF (pac (pv 1) (pac (pe_fld (pv 0) rfl) pa_nil)))) pss_never), ?_⟩
    exact ⟨_, rfl, _, rfl, x, _, dx, _, _, rfl, i.obj, T.c_Index, T.n_Index_entries, flds_ent E1 B, y, E1, _, rfl, i.en, hnm.ents, k⟩
theorem ok_taddX {fd : FuncData} (F : FunD K "add" "Threads.add" sThreads_add a.f_Threads_add fd) (T : Txt K mg a) (FF : Funs K a) : FnOk P w K mg base (CXF P w) 2 a.f_Threads_add fd ["self", "name", "answers"] (spTAddX a) := by
  obtain ⟨fdC, F_check_new, b_check_new⟩ := FF.F_check_new
  have G_check_new : FnOk P w K mg base (CXF P w) 1 a.f_check_new fdC ["name", "there"] (spNewX a) := ok_newX F_check_new T
  refine F.okX sc_Threads_add (fun vs H Q E h => ?_) (fun cdv A outer st H vs Q E hr h => ?_)
  · obtain ⟨x, dx, L, R, rows, kr, nm, an, u, rfl, _⟩ := h; rfl
  · obtain ⟨x, dx, L, R, rows, kr, nm, an, u, rfl, th, hnm, k⟩ := h
    have hr_check_new : Room 1 _ := hr
    refine ⟨_, (pss_cons (ps_expr (pe_callX (R := fun _ => E) G_check_new hr_check_new rfl T.m_check_new F_check_new.kp b_check_new .nil passF (pac (pv 1) (pac (pe_fld (pv 0) rfl) pa_nil)))) pss_never), ?_⟩
    exact ⟨_, rfl, _, rfl, x, _, dx, _, _, rfl, th.obj, T.c_Threads, T.n_Threads_links, flds_links L R, nm, L, _, _, rfl, th.lk, (by rw [val_rows, hnm]; rfl), k⟩
theorem ok_iaddX {fd : FuncData} (F : Fun K "add" "Index.add" sIndex_add a.f_Index_add fd) (T : Txt K mg a) (FF : Funs K a) : FnOk P w K mg base (CXF P w) 2 a.f_Index_add fd ["self", "name", "words"] (spIAddX a) := by
  obtain ⟨fdC, F_check_new, b_check_new⟩ := FF.F_check_new
  have G_check_new : FnOk P w K mg base (CXF P w) 1 a.f_check_new fdC ["name", "there"] (spNewX a) := ok_newX F_check_new T
  refine F.okX sc_Index_add (fun vs H Q E h => ?_) (fun cdv A outer st H vs Q E hr h => ?_)
  · obtain ⟨x, R, W, n, F, nm, u, rfl, _⟩ := h; rfl
  · obtain ⟨x, R, W, n, F, nm, u, rfl, ⟨dx, E1, B, rows, bs, i, rfl, _, rfl⟩, hnm, k⟩ := h
    obtain ⟨r, hr1, rfl⟩ := List.mem_map.mp (show nm ∈ rows.map (·.1) by rw [nw_names] at hnm; exact hnm)
    have hv : valV (entK rows) (Sum.inr r.1) = some (V.ref r.2.1) := dG_some (r := r) i.nd hr1
    have hr_check_new : Room 1 _ := hr
    refine ⟨_, (pss_cons (ps_expr (pe_callX (R := fun _ => E) G_check_new hr_check_new rfl T.m_check_new F_check_new.kp b_check_new .nil passF (pac (pv 1) (pac (pe_fld (pv 0) rfl) pa_nil)))) pss_never), ?_⟩
    exact ⟨_, rfl, _, rfl, x, _, dx, _, _, rfl, i.obj, T.c_Index, T.n_Index_entries, flds_ent E1 B, _, E1, _, _, rfl, i.en, hv, k⟩
theorem ok_addE {fd : FuncData} (F : FunD K "add" "Threads.add" sThreads_add a.f_Threads_add fd) (T : Txt K mg a) (FF : Funs K a) : FnOk P w K mg base CX0 2 a.f_Threads_add fd ["self", "name", "answers"] (spAddE a) := by
  obtain ⟨fdC, F_check_new, b_check_new⟩ := FF.F_check_new
  have G_check_new : FnOk P w K mg base CX0 1 a.f_check_new fdC ["name", "there"] spNewD := ok_new F_check_new T
  refine F.ok sc_Threads_add (fun vs H Q E h => ?_) (fun cdv A outer st H vs Q E hr h => ?_)
  · obtain ⟨x, dx, L, R, rows, nm, rfl, _⟩ := h; rfl
  · obtain ⟨x, dx, L, R, rows, nm, rfl, th, hlen, hn, k⟩ := h
    have hu := hu_of hr
    have hr_check_new : Room 1 _ := hr
    refine ⟨_, (pss_cons (ps_expr (pe_call G_check_new hr_check_new rfl T.m_check_new F_check_new.kp b_check_new .nil pass0 (pac (pv 1) (pac (pe_fld (pv 0) rfl) pa_nil))))
        (pss_cons (ps_dput hu (pe_fld (pv 0) rfl) (pv 1) (pv 2) rfl)
        (pss_one (ps_if (pt_cmpR op_ne (pv 2) pe_str (nomark _)) pss_never pss_nil)))), ?_⟩
    have xL : x ≠ L := fun z => by have h1 := th.obj; rw [z, th.lk] at h1; cases h1
    refine ⟨_, rfl, _, rfl, x, _, dx, _, _, rfl, th.obj, T.c_Threads, T.n_Threads_links, flds_links L R, nm, L, _, rfl, th.lk, (by rw [val_rows, hn]; rfl), ?_⟩
    refine ⟨_, rfl, _, rfl, x, _, dx, _, _, rfl, th.obj, T.c_Threads, T.n_Threads_links, flds_links L R, _, rfl, L, _, rfl, DPut.k (k := Sum.inr nm) th.lk (by rw [rowsK, List.length_map]; exact small1000 (by omega)), ?_⟩
    rw [put_rows hn]
    refine ⟨_, rfl, rfl, _, rfl, ?_⟩
    rw [show (!decide (V.str "" = V.str "")) = false by simp]
    refine iteF (k _ (th.add hn hlen (by rw [upd_ne xL]; exact th.obj) upd_same (by rw [upd_ne th.lr.symm]; exact th.rp) th.fewR (fun t d _ e => (by cases e)) (fun _ _ => rfl) (fun z => absurd rfl z) (fun _ => rfl)) fun c o hc e => ?_)
    rw [upd_ne (fun z => hc (by rw [z]; exact List.mem_singleton.mpr rfl))]
    exact e
theorem ok_takeE {fd : FuncData} (F : Fun K "take_out" "Threads.take_out" sThreads_take_out a.f_Threads_take_out fd) (T : Txt K mg a) (FF : Funs K a) : FnOk P w K mg base CX0 2 a.f_Threads_take_out fd ["self", "name"] (spTakeE a) := by
  obtain ⟨fdC, F_check_there, b_check_there⟩ := FF.F_check_there
  have G_check_there : FnOk P w K mg base CX0 1 a.f_check_there fdC ["name", "there"] spThereD := ok_there F_check_there T
  refine F.ok sc_Threads_take_out (fun vs H Q E h => ?_) (fun cdv A outer st H vs Q E hr h => ?_)
  · obtain ⟨x, dx, L, R, rows, nm, rfl, _⟩ := h; rfl
  · obtain ⟨x, dx, L, R, rows, nm, rfl, th, eu, k⟩ := h
    have hr_check_there : Room 1 _ := hr
    refine ⟨_, (pss_cons (ps_expr (pe_call G_check_there hr_check_there rfl T.m_check_there F_check_there.kp b_check_there .nil pass0 (pac (pv 1) (pac (pe_fld (pv 0) rfl) pa_nil))))
        (pss_cons (ps_set (i := 2) sc_Threads_take_out.nd rfl (Or.inl rfl) (pe_dpop1 (pe_fld (pv 0) rfl) (pv 1) ⟨rfl, rfl, rfl, rfl⟩))
        (pss_one (ps_if (pt_cmpR op_ne (pv 2) pe_str (nomark _)) pss_never pss_nil)))), ?_⟩
    have xL : x ≠ L := fun z => by have h1 := th.obj; rw [z, th.lk] at h1; cases h1
    refine ⟨_, rfl, _, rfl, x, _, dx, _, _, rfl, th.obj, T.c_Threads, T.n_Threads_links, flds_links L R, nm, L, _, _, rfl, th.lk, (by rw [val_rows, eu]; rfl), ?_⟩
    refine ⟨_, rfl, x, _, dx, _, _, rfl, th.obj, T.c_Threads, T.n_Threads_links, flds_links L R, L, rfl, .inl ⟨_, .inl th.lk⟩, _, rfl, _, Sum.inr nm, .str "", th.lk, rfl, (by rw [val_rows, eu]; rfl), ?_⟩
    rw [drop_rows]
    refine ⟨_, rfl, rfl, _, rfl, ?_⟩
    rw [show (!decide (V.str "" = V.str "")) = false by simp]
    refine iteF (k _ (th.take eu (by rw [upd_ne xL]; exact th.obj) upd_same (by rw [upd_ne th.lr.symm]; exact th.rp) (fun t d _ e => (by cases e)) (fun d e => (by cases e))) fun c o hc e => ?_)
    rw [upd_ne (fun z => hc (by rw [z]; exact List.mem_singleton.mpr rfl))]
    exact e
end
noncomputable def rowsE (ts : List Str) : Rows := ts.map fun t => (t, ("" : Str))
theorem rowsE_names (ts : List Str) : (rowsE ts).map (·.1) = ts := by unfold rowsE; rw [List.map_map]; exact List.map_id _
theorem rowsE_snoc (ts : List Str) (nm : Str) : rowsE (ts ++ [nm]) = rowsE ts ++ [(nm, ("" : Str))] := by unfold rowsE; rw [List.map_append]; rfl
theorem rowsE_up {ts : List Str} {nm : Str} (h : nm ∈ ts) : up (rowsE ts) nm = some ("" : Str) := by
  obtain ⟨an, e⟩ := up_some (rows := rowsE ts) (by rw [rowsE_names]; exact h)
  have := in_reps e
  unfold reps at this
  obtain ⟨r, hr, _⟩ := List.mem_map.mp this
  obtain ⟨h1, h2⟩ := List.mem_filter.mp hr
  obtain ⟨t, _, rfl⟩ := List.mem_map.mp h1
  rw [e, ← of_decide_eq_true h2]
theorem rowsE_no {ts : List Str} {nm : Str} (h : ¬ nm ∈ ts) : up (rowsE ts) nm = none := up_none.mpr (by rw [rowsE_names]; exact h)
theorem rowsE_without (ts : List Str) (nm : Str) : L2.without (rowsE ts) nm = rowsE (ts.filter fun t => decide (t ≠ nm)) := by
  unfold L2.without rowsE
  rw [List.filter_map]
  rfl
theorem rowsE_reps {ts : List Str} {t : Str} (h : t ≠ "") : reps (rowsE ts) t = [] := by
  refine List.eq_nil_iff_forall_not_mem.mpr fun z hz => ?_
  unfold reps at hz
  obtain ⟨r, hr, _⟩ := List.mem_map.mp hz
  obtain ⟨h1, h2⟩ := List.mem_filter.mp hr
  obtain ⟨y, _, rfl⟩ := List.mem_map.mp h1
  exact h (of_decide_eq_true h2).symm
theorem rowsE_rch {ts : List Str} {n m : Str} (hn : n ≠ "") (h : Rch (rowsE ts) n m) : m = n := by
  induction h with
  | refl => rfl
  | step h k ih =>
    rw [ih] at k
    unfold nbr at k
    rcases List.mem_append.mp k with k | k
    · rw [rowsE_reps hn] at k; cases k
    · obtain ⟨e, ne⟩ := mem_upL.mp k
      by_cases hm : n ∈ ts
      · rw [rowsE_up hm] at e; cases e; exact absurd rfl ne
      · rw [rowsE_no hm] at e; cases e
theorem rowsE_thr {ts : List Str} (nd : ts.Nodup) {n : Str} (hm : n ∈ ts) (hn : n ≠ "") : thrOf (rowsE ts) n = [n] := by
  have := thr_of (rows := rowsE ts) (n := n) (l := [n]) (by rw [rowsE_names]; exact nd) (by simp) fun m => by
    rw [rowsE_names]
    constructor
    · intro z; rw [List.mem_singleton.mp z]; exact ⟨hm, .refl⟩
    · rintro ⟨_, z⟩; exact List.mem_singleton.mpr (rowsE_rch hn z)
  rw [← this]; rfl
theorem rowsE_fold {ts : List Str} (nd : ts.Nodup) (ne : ∀ t ∈ ts, t ≠ "") : ∀ (l pre : List Str), (pre ++ l).Nodup → (∀ t ∈ l, t ∈ ts) → l.foldl (thrGo (rowsE ts)) (pre.map fun t => [t]) = (pre ++ l).map fun t => [t]
  | [], pre, _, _ => by rw [List.append_nil]; rfl
  | n :: l, pre, hd, hs => by
    have hn := hs n List.mem_cons_self
    have e : pre ++ n :: l = (pre ++ [n]) ++ l := by rw [List.append_assoc]; rfl
    rw [List.foldl_cons]
    have : thrGo (rowsE ts) (pre.map fun t => [t]) n = (pre ++ [n]).map fun t => [t] := by
      unfold thrGo
      rw [rowsE_thr nd hn (ne n hn), if_neg, List.map_append]
      · rfl
      · intro z
        obtain ⟨t, ht, e⟩ := List.mem_map.mp z
        cases e
        exact (List.nodup_append.mp hd).2.2 n ht n List.mem_cons_self rfl
    rw [this, e]
    exact rowsE_fold nd ne l (pre ++ [n]) (by rw [← e]; exact hd) fun t ht => hs t (List.mem_cons_of_mem _ ht)
theorem rowsE_all {ts : List Str} (nd : ts.Nodup) (ne : ∀ t ∈ ts, t ≠ "") (l : List Str) (hd : l.Nodup) (hs : ∀ t ∈ l, t ∈ ts) : thrAll (rowsE ts) l = l.map fun t => [t] := rowsE_fold nd ne l [] hd hs
theorem rowsE_depth {ts : List Str} {n : Str} (hm : n ∈ ts) (ne : ∀ t ∈ ts, t ≠ "") : depthOf (rowsE ts) n = 0 := by
  unfold depthOf
  have hl : 0 < (rowsE ts).length := by unfold rowsE; rw [List.length_map]; exact List.length_pos_of_mem hm
  obtain ⟨k, hk⟩ : ∃ k, (rowsE ts).length = k + 1 := ⟨(rowsE ts).length - 1, by omega⟩
  rw [hk, chain_end (a := ("" : Str)) (rowsE_up hm) (fun z => by rw [rowsE_names] at z; exact ne "" z.1 rfl)]
  rfl
noncomputable def nwE (us : List Str) : NW := us.map fun u => (u, SS [u, "rent"])
theorem nwE_names (us : List Str) : (nwE us).map (·.1) = us := by unfold nwE; rw [List.map_map]; exact List.map_id _
theorem nwE_snoc (us : List Str) (nm : Str) : nwE (us ++ [nm]) = nwE us ++ [(nm, SS [nm, "rent"])] := by unfold nwE; rw [List.map_append]; rfl
theorem nwE_noN (us : List Str) (nm : Str) : noN (nwE us) nm = nwE (us.filter fun t => decide (t ≠ nm)) := by
  unfold noN nwE
  rw [List.filter_map]
  rfl
theorem mem_SS2 {t u v : Str} : t ∈ SS [u, v] ↔ t = u ∨ t = v := by
  unfold SS
  rw [sortS_mem, mem_dd]
  simp
theorem nwE_rent (us : List Str) : bear (nwE us) "rent" = us := by
  unfold bear nwE
  rw [List.filter_map, List.map_map, List.filter_eq_self.mpr]
  · exact List.map_id _
  · intro u _
    exact decide_eq_true (mem_SS2.mpr (.inr rfl))
theorem nwE_bear {us : List Str} {t : Str} (h1 : ¬ t ∈ us) (h2 : t ≠ "rent") : bear (nwE us) t = [] := by
  refine List.eq_nil_iff_forall_not_mem.mpr fun z hz => ?_
  obtain ⟨ws, h, ht⟩ := bear_mem.mp hz
  obtain ⟨u, hu, e⟩ := List.mem_map.mp h
  cases e
  rcases mem_SS2.mp ht with rfl | e
  · exact h1 hu
  · exact h2 e
theorem int_no {i : Nat} {σ : St} {H : Hp} {w n : Int} {Q : Bool → Hp → Prop} (h0 : σ[i]? = some (some (.int w))) (ne : w ≠ n) (q : Q false H) : tTest (tOp rEq (tVar i) (tC (.int n))) σ H Q := ⟨_, h0, rfl, _, rfl, by rw [decide_eq_false fun z => ne (V.int.inj z)]; exact q⟩
theorem int_yes {i : Nat} {σ : St} {H : Hp} {w : Int} {Q : Bool → Hp → Prop} (h0 : σ[i]? = some (some (.int w))) (q : Q true H) : tTest (tOp rEq (tVar i) (tC (.int w))) σ H Q := ⟨_, h0, rfl, _, rfl, by rw [decide_eq_true rfl]; exact q⟩
theorem TH.keepE {a : Adr} {H H' : Hp} {x dx L R : Addr} {rows : Rows} (h : TH a H x dx L R rows []) (k : ∀ c o, (c = x ∨ c = L ∨ c = R) → H c = some o → H' c = some o) : TH a H' x dx L R rows [] :=
  ⟨k _ _ (.inl rfl) h.obj, k _ _ (.inr (.inl rfl)) h.lk, k _ _ (.inr (.inr rfl)) h.rp, h.lr, h.nd, h.few, h.fewR, fun t v e => (by cases e), h.no_, h.e_, h.inj⟩
theorem TH.same {a : Adr} {H H' : Hp} {x dx L R : Addr} {rows : Rows} {kr : List (Key × V)} (h : TH a H x dx L R rows kr) (s : Same H H') : TH a H' x dx L R rows kr := h.kp2 s.kp2
structure SB (a : Adr) (H : Hp) (x y dx L R : Addr) (F : List Addr) (ts us W : List Str) (n : Nat) : Prop where
  th : TH a H x dx L R (rowsE ts) []
  ix : IXs a H y (nwE us) W n F
  lF : ¬ L ∈ F
  rF : ¬ R ∈ F
theorem SB.same {a : Adr} {H H' : Hp} {x y dx L R : Addr} {F : List Addr} {ts us W : List Str} {n : Nat} (h : SB a H x y dx L R F ts us W n) (s : Same H H') : SB a H' x y dx L R F ts us W n := ⟨h.th.same s, h.ix.same s, h.lF, h.rF⟩
theorem SB.thr {a : Adr} {H H' : Hp} {x y dx L R : Addr} {F : List Addr} {ts ts' us W : List Str} {n : Nat} (h : SB a H x y dx L R F ts us W n) (th : TH a H' x dx L R (rowsE ts') []) (k : KpF [L] H H') : SB a H' x y dx L R F ts' us W n := by
  obtain ⟨dy, E, B, oy⟩ := h.ix.obj
  refine ⟨th, h.ix.keep fun c o hc e => k c o (fun z => ?_) e, h.lF, h.rF⟩
  have z := List.mem_singleton.mp z
  rcases hc with hc | hc
  · exact ne_of oy h.th.lk (fun z => nomatch z) (hc.symm.trans z)
  · exact h.lF (by rw [← z]; exact hc)
theorem SB.inx {a : Adr} {H H' : Hp} {x y dx L R : Addr} {F F' : List Addr} {ts us us' W : List Str} {n n' : Nat} (h : SB a H x y dx L R F ts us W n) (ix : IXs a H' y (nwE us') W n' F') (k : KpF F H H') (sb : ∀ c ∈ F', c ∈ F ∨ H c = none) : SB a H' x y dx L R F' ts us' W n' :=
  ⟨h.th.keepE (fun c o hc e => k c o (by rcases hc with rfl | rfl | rfl; exact h.ix.notIns h.th.obj; exact h.lF; exact h.rF) e), ix,
    (fun z => (sb _ z).elim h.lF (fun e => by rw [h.th.lk] at e; cases e)), (fun z => (sb _ z).elim h.rF (fun e => by rw [h.th.rp] at e; cases e))⟩
/- it is refused -/
noncomputable def RefA (a : Adr) (H : Hp) (x y : Addr) (c : Int) (v : V) : Prop :=
  (∃ dx L R rows kr, TH a H x dx L R rows kr ∧ ((c = 0 ∧ ∃ nm, v = .str nm ∧ nm ∈ rows.map (·.1)) ∨ ((c = 1 ∨ c = 2 ∨ c = 3) ∧ NotN (rows.map (·.1)) v))) ∨
  ∃ R W n F, IXs a H y R W n F ∧ ((c = 4 ∧ ∃ nm, v = .str nm ∧ nm ∈ R.map (·.1)) ∨ ((c = 5 ∨ c = 6) ∧ NotN (R.map (·.1)) v))
theorem SB.refA {a : Adr} {H : Hp} {x y dx L R : Addr} {F : List Addr} {ts us W : List Str} {n : Nat} (h : SB a H x y dx L R F ts us W n) {c : Int} {v : V}
    (hc : (c = 0 ∧ ∃ nm, v = .str nm ∧ nm ∈ ts) ∨ ((c = 1 ∨ c = 2 ∨ c = 3) ∧ NotN ts v) ∨ (c = 4 ∧ ∃ nm, v = .str nm ∧ nm ∈ us) ∨ ((c = 5 ∨ c = 6) ∧ NotN us v)) : RefA a H x y c v := by
  have e1 := rowsE_names ts
  have e2 := nwE_names us
  rcases hc with z | z | z | z
  · exact .inl ⟨dx, L, R, _, _, h.th, .inl (by rw [e1]; exact z)⟩
  · exact .inl ⟨dx, L, R, _, _, h.th, .inr (by rw [e1]; exact z)⟩
  · exact .inr ⟨_, W, n, F, h.ix, .inl (by rw [e2]; exact z)⟩
  · exact .inr ⟨_, W, n, F, h.ix, .inr (by rw [e2]; exact z)⟩
inductive spCalledX_I (a : Adr) (vs : List V) (H : Hp) (E : XK) : Prop
  | mk : ∀ (x y : Addr) (c : Int) (v : V), vs = [.int c, .ref x, .ref y, v, .bl true] → RefA a H x y c v → (∀ H', Same H H' → E (.ref a.C_NoName) none H') → spCalledX_I a vs H E
noncomputable def spCalledX (a : Adr) : Sp := fun vs H _ E => spCalledX_I a vs H E
section
variable {P : Program} {w : World} {K : PySem.W.Frag} {mg : Str → Option Value} {base : Heap} {a : Adr}
theorem ok_calledX {fd : FuncData} (F : Fun K "_law_called" "_law_called" sl_called a.f_l_called fd) (T : Txt K mg a) (FF : Funs K a) : FnOk P w K mg base (CXF P w) 3 a.f_l_called fd ["_law_call", "_law_threads", "_law_index", "_law_name", "_law_bad"] (spCalledX a) := by
  obtain ⟨fdA, F_A, b_A0, ⟨dsA, vA, b_A1⟩⟩ := FF.F_Threads_add
  obtain ⟨fdB, F_B, b_B⟩ := FF.F_Index_add
  obtain ⟨fdT, F_T, b_T⟩ := FF.F_Threads_take_out
  obtain ⟨fdH, F_H, b_H⟩ := FF.F_Threads_thread
  obtain ⟨fdD, F_D, b_D⟩ := FF.F_Threads_depth
  obtain ⟨fdI, F_I, b_I⟩ := FF.F_Index_take_out
  obtain ⟨fdW, F_W, b_W⟩ := FF.F_Index_words
  have G_A : FnOk P w K mg base (CXF P w) 2 a.f_Threads_add fdA ["self", "name", "answers"] (spTAddX a) := ok_taddX F_A T FF
  have G_B : FnOk P w K mg base (CXF P w) 2 a.f_Index_add fdB ["self", "name", "words"] (spIAddX a) := ok_iaddX F_B T FF
  have G_T : FnOk P w K mg base (CXF P w) 2 a.f_Threads_take_out fdT ["self", "name"] (spT2V a) := ok_vttake F_T T FF
  have G_H : FnOk P w K mg base (CXF P w) 2 a.f_Threads_thread fdH ["self", "name"] (spT2V a) := ok_vthread F_H T FF
  have G_D : FnOk P w K mg base (CXF P w) 2 a.f_Threads_depth fdD ["self", "name"] (spT2V a) := ok_vdepth F_D T FF
  have G_I : FnOk P w K mg base (CXF P w) 2 a.f_Index_take_out fdI ["self", "name"] (spI2V a) := ok_vitake F_I T FF
  have G_W : FnOk P w K mg base (CXF P w) 2 a.f_Index_words fdW ["self", "name"] (spI2V a) := ok_vwords F_W T FF
  refine F.okX sc_l_called (fun vs H Q E h => ?_) (fun cdv A outer s H vs Q E hr h => ?_)
  · obtain ⟨x, y, c, v, rfl, _⟩ := h; rfl
  · obtain ⟨x, y, c, v, rfl, hR, k⟩ := h
    have hr2 : Room 2 _ := hr
    rcases hR with ⟨dx, L, R, rows, kr, th, ⟨rfl, nm, rfl, hn⟩ | ⟨rfl | rfl | rfl, hn⟩⟩ | ⟨R, W, n, F, ix, ⟨rfl, nm, rfl, hn⟩ | ⟨rfl | rfl, hn⟩⟩
    · refine ⟨_, (pss_cons (ps_if (PW.pt (pw_and (pt_cmpR op_eq (pv 0) pe_int (nomark _)) (pw_and1 (pt_val (pv 4))))) (pss_one (ps_ret (pe_methX (R := fun _ => E) (pv 1) T.c_Threads T.M_Threads_add G_A hr2 b_A0 .nil passF (pac (pv 3) (pac pe_str pa_nil))))) pss_nil) pss_never), ?_⟩
      refine int_yes rfl (iteT ⟨_, rfl, _, rfl, iteT ?_⟩)
      obtain ⟨an, eu⟩ := up_some hn
      exact ⟨_, rfl, x, dx, _, rfl, th.obj, rfl, _, rfl, x, dx, L, R, rows, kr, nm, an, _, rfl, th, eu, k _ (Same.refl _)⟩
    · refine ⟨_, (pss_cons (ps_if (PW.pt (pw_and (pt_cmpR op_eq (pv 0) pe_int (nomark _)) (pw_and1 (pt_val (pv 4))))) pss_never pss_nil)
        (pss_cons (ps_if (PW.pt (pw_and (pt_cmpR op_eq (pv 0) pe_int (nomark _)) (pw_and1 (pt_val (pv 4))))) pss_never pss_nil)
        (pss_cons (ps_if (pt_cmpR op_eq (pv 0) pe_int (nomark _)) pss_never pss_nil)
        (pss_cons (ps_if (pt_cmpR op_eq (pv 0) pe_int (nomark _)) (pss_one (ps_ret (pe_methX (R := fun _ => E) (pv 1) T.c_Threads T.M_Threads_take_out G_T hr2 b_T .nil passF (pac (pv 3) pa_nil)))) pss_nil) pss_never)))), ?_⟩
      refine int_no (w := 1) rfl (by decide) (iteF (iteF ?_))
      refine int_no (w := 1) rfl (by decide) (iteF (iteF ?_))
      refine int_no (w := 1) rfl (by decide) (iteF ?_)
      refine int_yes rfl (iteT ?_)
      exact ⟨_, rfl, x, dx, _, rfl, th.obj, rfl, _, rfl, x, dx, L, R, rows, kr, v, rfl, th, hn, k _ (Same.refl _)⟩
    · refine ⟨_, (pss_cons (ps_if (PW.pt (pw_and (pt_cmpR op_eq (pv 0) pe_int (nomark _)) (pw_and1 (pt_val (pv 4))))) pss_never pss_nil)
        (pss_cons (ps_if (PW.pt (pw_and (pt_cmpR op_eq (pv 0) pe_int (nomark _)) (pw_and1 (pt_val (pv 4))))) pss_never pss_nil)
        (pss_cons (ps_if (pt_cmpR op_eq (pv 0) pe_int (nomark _)) pss_never pss_nil)
        (pss_cons (ps_if (pt_cmpR op_eq (pv 0) pe_int (nomark _)) pss_never pss_nil)
        (pss_cons (ps_if (pt_cmpR op_eq (pv 0) pe_int (nomark _)) (pss_one (ps_ret (pe_methX (R := fun _ => E) (pv 1) T.c_Threads T.M_Threads_thread G_H hr2 b_H .nil passF (pac (pv 3) pa_nil)))) pss_nil) pss_never))))), ?_⟩
      refine int_no (w := 2) rfl (by decide) (iteF (iteF ?_))
      refine int_no (w := 2) rfl (by decide) (iteF (iteF ?_))
      refine int_no (w := 2) rfl (by decide) (iteF ?_)
      refine int_no (w := 2) rfl (by decide) (iteF ?_)
      refine int_yes rfl (iteT ?_)
      exact ⟨_, rfl, x, dx, _, rfl, th.obj, rfl, _, rfl, x, dx, L, R, rows, kr, v, rfl, th, hn, k _ (Same.refl _)⟩
    · refine ⟨_, (pss_cons (ps_if (PW.pt (pw_and (pt_cmpR op_eq (pv 0) pe_int (nomark _)) (pw_and1 (pt_val (pv 4))))) pss_never pss_nil)
        (pss_cons (ps_if (PW.pt (pw_and (pt_cmpR op_eq (pv 0) pe_int (nomark _)) (pw_and1 (pt_val (pv 4))))) pss_never pss_nil)
        (pss_cons (ps_if (pt_cmpR op_eq (pv 0) pe_int (nomark _)) pss_never pss_nil)
        (pss_cons (ps_if (pt_cmpR op_eq (pv 0) pe_int (nomark _)) pss_never pss_nil)
        (pss_cons (ps_if (pt_cmpR op_eq (pv 0) pe_int (nomark _)) pss_never pss_nil)
        (pss_cons (ps_if (pt_cmpR op_eq (pv 0) pe_int (nomark _)) (pss_one (ps_ret (pe_methX (R := fun _ => E) (pv 1) T.c_Threads T.M_Threads_depth G_D hr2 b_D .nil passF (pac (pv 3) pa_nil)))) pss_nil) pss_never)))))), ?_⟩
      refine int_no (w := 3) rfl (by decide) (iteF (iteF ?_))
      refine int_no (w := 3) rfl (by decide) (iteF (iteF ?_))
      refine int_no (w := 3) rfl (by decide) (iteF ?_)
      refine int_no (w := 3) rfl (by decide) (iteF ?_)
      refine int_no (w := 3) rfl (by decide) (iteF ?_)
      refine int_yes rfl (iteT ?_)
      exact ⟨_, rfl, x, dx, _, rfl, th.obj, rfl, _, rfl, x, dx, L, R, rows, kr, v, rfl, th, hn, k _ (Same.refl _)⟩
    · refine ⟨_, (pss_cons (ps_if (PW.pt (pw_and (pt_cmpR op_eq (pv 0) pe_int (nomark _)) (pw_and1 (pt_val (pv 4))))) pss_never pss_nil)
        (pss_cons (ps_if (PW.pt (pw_and (pt_cmpR op_eq (pv 0) pe_int (nomark _)) (pw_and1 (pt_val (pv 4))))) (pss_one (ps_ret (pe_methX (R := fun _ => E) (pv 2) T.c_Index T.M_Index_add G_B hr2 b_B .nil passF (pac (pv 3) (pac (pe_lstS (pas_cons pe_str pas_nil)) pa_nil))))) pss_nil) pss_never)), ?_⟩
      refine int_no (w := 4) rfl (by decide) (iteF (iteF ?_))
      refine int_yes rfl (iteT ⟨_, rfl, _, rfl, iteT ?_⟩)
      obtain ⟨dy, E1, B1, oy⟩ := ix.obj
      refine ⟨_, rfl, y, dy, _, rfl, oy, rfl, _, rfl, (by show 1 ≤ sizeLine; decide), fun l hl => ?_⟩
      exact ⟨y, R, W, n, F, nm, _, rfl, ix.same (Same.upd_new hl), hn, k _ (Same.upd_new hl)⟩
    · refine ⟨_, (pss_cons (ps_if (PW.pt (pw_and (pt_cmpR op_eq (pv 0) pe_int (nomark _)) (pw_and1 (pt_val (pv 4))))) pss_never pss_nil)
        (pss_cons (ps_if (PW.pt (pw_and (pt_cmpR op_eq (pv 0) pe_int (nomark _)) (pw_and1 (pt_val (pv 4))))) pss_never pss_nil)
        (pss_cons (ps_if (pt_cmpR op_eq (pv 0) pe_int (nomark _)) pss_never pss_nil)
        (pss_cons (ps_if (pt_cmpR op_eq (pv 0) pe_int (nomark _)) pss_never pss_nil)
        (pss_cons (ps_if (pt_cmpR op_eq (pv 0) pe_int (nomark _)) pss_never pss_nil)
        (pss_cons (ps_if (pt_cmpR op_eq (pv 0) pe_int (nomark _)) pss_never pss_nil)
        (pss_cons (ps_if (pt_cmpR op_eq (pv 0) pe_int (nomark _)) pss_never pss_nil)
        (pss_cons (ps_if (pt_cmpR op_eq (pv 0) pe_int (nomark _)) (pss_one (ps_ret (pe_methX (R := fun _ => E) (pv 2) T.c_Index T.M_Index_take_out G_I hr2 b_I .nil passF (pac (pv 3) pa_nil)))) pss_nil) pss_never)))))))), ?_⟩
      refine int_no (w := 5) rfl (by decide) (iteF (iteF ?_))
      refine int_no (w := 5) rfl (by decide) (iteF (iteF ?_))
      refine int_no (w := 5) rfl (by decide) (iteF ?_)
      refine int_no (w := 5) rfl (by decide) (iteF ?_)
      refine int_no (w := 5) rfl (by decide) (iteF ?_)
      refine int_no (w := 5) rfl (by decide) (iteF ?_)
      refine int_no (w := 5) rfl (by decide) (iteF ?_)
      refine int_yes rfl (iteT ?_)
      obtain ⟨dy, E1, B1, oy⟩ := ix.obj
      exact ⟨_, rfl, y, dy, _, rfl, oy, rfl, _, rfl, y, R, W, n, F, v, rfl, ix, hn, k _ (Same.refl _)⟩
    · refine ⟨_, (pss_cons (ps_if (PW.pt (pw_and (pt_cmpR op_eq (pv 0) pe_int (nomark _)) (pw_and1 (pt_val (pv 4))))) pss_never pss_nil)
        (pss_cons (ps_if (PW.pt (pw_and (pt_cmpR op_eq (pv 0) pe_int (nomark _)) (pw_and1 (pt_val (pv 4))))) pss_never pss_nil)
        (pss_cons (ps_if (pt_cmpR op_eq (pv 0) pe_int (nomark _)) pss_never pss_nil)
        (pss_cons (ps_if (pt_cmpR op_eq (pv 0) pe_int (nomark _)) pss_never pss_nil)
        (pss_cons (ps_if (pt_cmpR op_eq (pv 0) pe_int (nomark _)) pss_never pss_nil)
        (pss_cons (ps_if (pt_cmpR op_eq (pv 0) pe_int (nomark _)) pss_never pss_nil)
        (pss_cons (ps_if (pt_cmpR op_eq (pv 0) pe_int (nomark _)) pss_never pss_nil)
        (pss_cons (ps_if (pt_cmpR op_eq (pv 0) pe_int (nomark _)) pss_never pss_nil)
        (pss_one (ps_ret (pe_methX (R := fun _ => E) (pv 2) T.c_Index T.M_Index_words G_W hr2 b_W .nil passF (pac (pv 3) pa_nil)))))))))))), ?_⟩
      refine int_no (w := 6) rfl (by decide) (iteF (iteF ?_))
      refine int_no (w := 6) rfl (by decide) (iteF (iteF ?_))
      refine int_no (w := 6) rfl (by decide) (iteF ?_)
      refine int_no (w := 6) rfl (by decide) (iteF ?_)
      refine int_no (w := 6) rfl (by decide) (iteF ?_)
      refine int_no (w := 6) rfl (by decide) (iteF ?_)
      refine int_no (w := 6) rfl (by decide) (iteF ?_)
      refine int_no (w := 6) rfl (by decide) (iteF ?_)
      obtain ⟨dy, E1, B1, oy⟩ := ix.obj
      exact ⟨_, rfl, y, dy, _, rfl, oy, rfl, _, rfl, y, R, W, n, F, v, rfl, ix, hn, k _ (Same.refl _)⟩
end
inductive spRefd_I (a : Adr) (vs : List V) (H : Hp) (Q : VK) : Prop
  | mk : ∀ (x y : Addr) (c : Int) (v : V), vs = [.int c, .ref x, .ref y, v] → RefA a H x y c v → (∀ H', Same H H' → Q (.bl true) H') → spRefd_I a vs H Q
noncomputable def spRefd (a : Adr) : Sp := fun vs H Q _ => spRefd_I a vs H Q
section
variable {P : Program} {w : World} {K : PySem.W.Frag} {mg : Str → Option Value} {base : Heap} {a : Adr}
theorem ok_refd {fd : FuncData} (F : Fun K "_law_refused" "_law_refused" sl_refused a.f_l_refused fd) (T : Txt K mg a) (FF : Funs K a) : FnOk P w K mg base CX0 4 a.f_l_refused fd ["_law_call", "_law_threads", "_law_index", "_law_name"] (spRefd a) := by
  obtain ⟨fdA, F_l_called, b_l_called⟩ := FF.F_l_called
  have G_l_called : FnOk P w K mg base (CXF P w) 3 a.f_l_called fdA ["_law_call", "_law_threads", "_law_index", "_law_name", "_law_bad"] (spCalledX a) := ok_calledX F_l_called T FF
  refine F.ok sc_l_refused (fun vs H Q E h => ?_) (fun cdv A outer s H vs Q E hr h => ?_)
  · obtain ⟨x, y, c, v, rfl, _⟩ := h; rfl
  · obtain ⟨x, y, c, v, rfl, hR, k⟩ := h
    have hr3 : Room 3 _ := hr
    refine ⟨_, (pss_cons (ps_tryAs (i := 4) (R := fun σ c' _ H' => c' = .ref a.C_NoName ∧ σ = L2.start n_l_refused [.int c, .ref x, .ref y, v] ∧ Same H H') rfl T.mx_MailError T.x_MailError rfl rfl rfl sc_l_refused.nd rfl rfl (fun σ C H' q => by obtain ⟨e, _⟩ := q; cases e; exact ⟨T.x_NoName, T.s_NoName_MailError⟩)
        (fun pn => pss_one (ps_expr (pe_callX (R := fun σ c' _ H' => c' = .ref a.C_NoName ∧ σ = L2.start n_l_refused [.int c, .ref x, .ref y, v] ∧ Same H H') G_l_called hr3 rfl T.m_l_called F_l_called.kp b_l_called .nil passT (pac (pv 0) (pac (pv 1) (pac (pv 2) (pac (pv 3) (pac pe_bl pa_nil))))))))
        (fun ev => (pss_cons (ps_set (i := 5) sc_l_refused.nd rfl (Or.inl rfl) (pe_lstS (pas_cons (pe_callB (call_isexcK K) rfl T.b_isinstance PyProof.Rows.boot_isinstance (pac (pv 4) (pac (pe_gl (v := .ref a.C_NoWord) rfl ⟨_, T.mx_NoWord, rfl⟩) pa_nil))) (pas_cons (pe_callB (call_isexcK K) rfl T.b_isinstance PyProof.Rows.boot_isinstance (pac (pv 4) (pac (pe_gl (v := .ref a.C_NoLetter) rfl ⟨_, T.mx_NoLetter, rfl⟩) pa_nil))) (pas_cons (pe_callB (call_isexcK K) rfl T.b_isinstance PyProof.Rows.boot_isinstance (pac (pv 4) (pac (pe_gl (v := .ref a.C_NoRule) rfl ⟨_, T.mx_NoRule, rfl⟩) pa_nil))) pas_nil)))))
        (pss_cons (ps_set (i := 5) sc_l_refused.nd rfl (Or.inl rfl) (pe_op op_cat (pv 5) (pe_lstS (pas_cons (pe_callB (call_isexcK K) rfl T.b_isinstance PyProof.Rows.boot_isinstance (pac (pv 4) (pac (pe_gl (v := .ref a.C_NoParcel) rfl ⟨_, T.mx_NoParcel, rfl⟩) pa_nil))) (pas_cons (pe_callB (call_isexcK K) rfl T.b_isinstance PyProof.Rows.boot_isinstance (pac (pv 4) (pac (pe_gl (v := .ref a.C_NoRow) rfl ⟨_, T.mx_NoRow, rfl⟩) pa_nil))) pas_nil)))))
        (pss_one (ps_ret (pe_and (pe_callB (call_isexcK K) rfl T.b_isinstance PyProof.Rows.boot_isinstance (pac (pv 4) (pac (pe_gl (v := .ref a.C_NoName) rfl ⟨_, T.mx_NoName, rfl⟩) pa_nil))) (pe_and (pe_callB (call_isexcK K) rfl T.b_isinstance PyProof.Rows.boot_isinstance (pac (pv 4) (pac (pe_bltn (v := .ty "ValueError") rfl T.b_ValueError boot_VE rfl) pa_nil))) (pe_one (pe_cmpR op_eq (pe_bmK K PySem.F.plainAttrs_list PySem.F.slot_list_count PySem.F.type_list_count mt_countB (pv 5) (pac pe_bl pa_nil)) pe_int (nomark _))))))))))) pss_never), ?_⟩
    refine ⟨fun σ' C H' e hq he => ?_, ?_⟩
    · obtain ⟨hC, rfl, sH⟩ := hq
      cases hC
      have s0 : Same H' (upd H' e (ExcO a.C_NoName e)) := Same.upd_new he
      have ee : (upd H' e (ExcO a.C_NoName e)) e = some (ExcO a.C_NoName e) := upd_same
      generalize upd H' e (ExcO a.C_NoName e) = G at s0 ee
      refine ⟨_, rfl, e, _, _, _, _, rfl, ee, T.xg_NoName, rfl, T.ki_NoName_NoWord, _, rfl, e, _, _, _, _, rfl, ee, T.xg_NoName, rfl, T.ki_NoName_NoLetter, _, rfl, e, _, _, _, _, rfl, ee, T.xg_NoName, rfl, T.ki_NoName_NoRule, (by show 3 ≤ sizeLine; decide), fun l hl => ?_⟩
      have s1 : Same G (upd G l (.lst [.bl false, .bl false, .bl false])) := Same.upd_new hl
      have e1 : (upd G l (.lst [.bl false, .bl false, .bl false])) l = some (.lst [.bl false, .bl false, .bl false]) := upd_same
      show tSeq _ _ _ _ (upd G l (.lst [.bl false, .bl false, .bl false]))
      generalize upd G l (.lst [.bl false, .bl false, .bl false]) = H1 at s1 e1
      have he1 := s1 _ _ ee
      refine ⟨_, rfl, _, rfl, e, _, _, _, _, rfl, he1, T.xg_NoName, rfl, T.ki_NoName_NoParcel, _, rfl, e, _, _, _, _, rfl, he1, T.xg_NoName, rfl, T.ki_NoName_NoRow, (by show 2 ≤ sizeLine; decide), fun m hm => ?_⟩
      have s2 : Same H1 (upd H1 m (.lst [.bl false, .bl false])) := Same.upd_new hm
      have e2 : (upd H1 m (.lst [.bl false, .bl false])) m = some (.lst [.bl false, .bl false]) := upd_same
      have e12 := s2 _ _ e1
      have he2 := s2 _ _ he1
      generalize upd H1 m (.lst [.bl false, .bl false]) = H2 at s2 e2 e12 he2
      refine ⟨l, m, _, _, rfl, rfl, e12, e2, (by show 5 ≤ sizeLine; decide), fun r hr => ?_⟩
      have s3 : Same H2 (upd H2 r (.lst ([false, false, false, false, false].map V.bl))) := Same.upd_new hr
      have e3 : (upd H2 r (.lst ([false, false, false, false, false].map V.bl))) r = some (.lst ([false, false, false, false, false].map V.bl)) := upd_same
      show gName _ _ _ (upd H2 r (.lst ([false, false, false, false, false].map V.bl))) _
      generalize upd H2 r (.lst ([false, false, false, false, false].map V.bl)) = H3 at s3 e3
      have he3 := s3 _ _ he2
      refine ⟨_, rfl, e, _, _, _, _, rfl, he3, T.xg_NoName, rfl, T.ki_NoName_NoName, _, rfl, iteT ?_⟩
      refine ⟨_, rfl, e, _, _, _, _, rfl, he3, T.xg_NoName, rfl, T.ki_NoName_ValueError, _, rfl, iteT ?_⟩
      refine ⟨_, rfl, .inl ⟨rfl, _, SqL.of e3⟩, r, [false, false, false, false, false], true, rfl, rfl, e3, rfl, ?_⟩
      exact k _ (sH.trans (s0.trans (s1.trans (s2.trans s3))))
    · exact ⟨_, rfl, _, rfl, _, rfl, _, rfl, x, y, c, v, rfl, hR, fun H' sH => ⟨rfl, rfl, sH⟩⟩
end
theorem IXs.at {a : Adr} {H : Hp} {x : Addr} {R : NW} {W : List Str} {n m : Nat} {F : List Addr} (h : IXs a H x R W n F) (k : R.length ≤ m) : IXs a H x R W m F := by
  obtain ⟨dx, E, B, rows, bs, i, e1, e2, e3⟩ := h
  exact ⟨dx, E, B, rows, bs, i, e1, k, e3⟩
noncomputable def noS (ts : List Str) (nm : Str) : List Str := ts.filter fun t => decide (t ≠ nm)
noncomputable def GoC (c : Int) (nm : Str) (ts us : List Str) : Prop := (c = 0 ∧ ¬ nm ∈ ts) ∨ ((c = 1 ∨ c = 2 ∨ c = 3) ∧ nm ∈ ts) ∨ (c = 4 ∧ ¬ nm ∈ us) ∨ ((c = 5 ∨ c = 6) ∧ nm ∈ us)
noncomputable def AfT (c : Int) (nm : Str) (ts ts' : List Str) : Prop := (c = 0 ∧ ts' = ts ++ [nm]) ∨ (c = 1 ∧ ts' = noS ts nm) ∨ (c ≠ 0 ∧ c ≠ 1 ∧ ts' = ts)
noncomputable def AfU (c : Int) (nm : Str) (us us' : List Str) : Prop := (c = 4 ∧ us' = us ++ [nm]) ∨ (c = 5 ∧ us' = noS us nm) ∨ (c ≠ 4 ∧ c ≠ 5 ∧ us' = us)
noncomputable def DueV (H H' : Hp) (c : Int) (nm : Str) (v : V) : Prop := (v = .non ∧ (c = 0 ∨ c = 1 ∨ c = 4 ∨ c = 5)) ∨ (v = .int 0 ∧ c = 3) ∨ ∃ l xs, v = .ref l ∧ H l = none ∧ H' l = some (.lst (xs.map V.str)) ∧ ((c = 2 ∧ xs = [nm]) ∨ (c = 6 ∧ xs = SS [nm, "rent"]))
inductive spCalled_I (a : Adr) (vs : List V) (H : Hp) (Q : VK) : Prop
  | mk : ∀ (x y dx L R : Addr) (F : List Addr) (ts us W : List Str) (n : Nat) (c : Int) (nm : Str), vs = [.int c, .ref x, .ref y, .str nm, .bl false] → SB a H x y dx L R F ts us W n → ts.length < 39 → n < 39 → (∀ t ∈ ts, t ≠ "") → nm ∈ W → ("rent" : Str) ∈ W → GoC c nm ts us →
    (∀ H' F' ts' us' v, SB a H' x y dx L R F' ts' us' W (n + 1) → AfT c nm ts ts' → AfU c nm us us' → KpF (L :: F) H H' → (∀ c ∈ F', c ∈ F ∨ H c = none) → DueV H H' c nm v → Q v H') → spCalled_I a vs H Q
noncomputable def spCalled (a : Adr) : Sp := fun vs H Q _ => spCalled_I a vs H Q
theorem kpL {L : Addr} {F : List Addr} {H H' : Hp} (k : KpF [L] H H') : KpF (L :: F) H H' := fun c o hc e => k c o (fun z => hc (by rw [List.mem_singleton.mp z]; exact List.mem_cons_self)) e
theorem kpF {L : Addr} {F : List Addr} {H H' : Hp} (k : KpF F H H') : KpF (L :: F) H H' := fun c o hc e => k c o (fun z => hc (List.mem_cons_of_mem _ z)) e
theorem SB.up {a : Adr} {H : Hp} {x y dx L R : Addr} {F : List Addr} {ts us W : List Str} {n : Nat} (h : SB a H x y dx L R F ts us W n) : SB a H x y dx L R F ts us W (n + 1) := ⟨h.th, h.ix.up, h.lF, h.rF⟩
section
variable {P : Program} {w : World} {K : PySem.W.Frag} {mg : Str → Option Value} {base : Heap} {a : Adr}
theorem ok_called {fd : FuncData} (F : Fun K "_law_called" "_law_called" sl_called a.f_l_called fd) (T : Txt K mg a) (FF : Funs K a) : FnOk P w K mg base CX0 4 a.f_l_called fd ["_law_call", "_law_threads", "_law_index", "_law_name", "_law_bad"] (spCalled a) := by
  obtain ⟨fdA, F_A, b_A0, ⟨dsA, vA, b_A1⟩⟩ := FF.F_Threads_add
  obtain ⟨fdB, F_B, b_B⟩ := FF.F_Index_add
  obtain ⟨fdT, F_T, b_T⟩ := FF.F_Threads_take_out
  obtain ⟨fdH, F_H, b_H⟩ := FF.F_Threads_thread
  obtain ⟨fdD, F_D, b_D⟩ := FF.F_Threads_depth
  obtain ⟨fdI, F_I, b_I⟩ := FF.F_Index_take_out
  obtain ⟨fdW, F_W, b_W⟩ := FF.F_Index_words
  have G_A : FnOk P w K mg base CX0 2 a.f_Threads_add fdA ["self", "name", "answers"] (spAddE a) := ok_addE F_A T FF
  have G_B := ok_iadd (P := P) (w := w) (base := base) F_B T FF
  have G_T : FnOk P w K mg base CX0 2 a.f_Threads_take_out fdT ["self", "name"] (spTakeE a) := ok_takeE F_T T FF
  have G_H := ok_thread (P := P) (w := w) (base := base) F_H T FF
  have G_D := ok_depth (P := P) (w := w) (base := base) F_D T FF
  have G_I := ok_itake (P := P) (w := w) (base := base) F_I T FF
  have G_W := ok_iwords (P := P) (w := w) (base := base) F_W T FF
  refine F.ok sc_l_called (fun vs H Q E h => ?_) (fun cdv A outer s H vs Q E hr h => ?_)
  · obtain ⟨x, y, dx, L, R, F, ts, us, W, n, c, nm, rfl, _⟩ := h; rfl
  · obtain ⟨x, y, dx, L, R, F, ts, us, W, n, c, nm, rfl, sb, htl, hn, hne, hnW, hrW, hg, k⟩ := h
    obtain ⟨dy, E1, B1, oy⟩ := sb.ix.obj
    have ths : THs a H x (rowsE ts) 40 := ⟨dx, L, R, [], sb.th, (by unfold rowsE; rw [List.length_map]; omega), by decide⟩
    have noe : NoE (rowsE ts) := fun t ht => by rw [rowsE_names] at ht; exact hne t ht
    have rl : (rowsE ts).length < 40 := by unfold rowsE; rw [List.length_map]; omega
    rcases hg with ⟨rfl, hm⟩ | ⟨rfl | rfl | rfl, hm⟩ | ⟨rfl, hm⟩ | ⟨rfl | rfl, hm⟩
    · refine ⟨_, (pss_cons (ps_if (PW.pt (pw_and (pt_cmpR op_eq (pv 0) pe_int (nomark _)) (pw_and1 (pt_val (pv 4))))) pss_never pss_nil)
        (pss_cons (ps_if (PW.pt (pw_and (pt_cmpR op_eq (pv 0) pe_int (nomark _)) (pw_and1 (pt_val (pv 4))))) pss_never pss_nil)
        (pss_cons (ps_if (pt_cmpR op_eq (pv 0) pe_int (nomark _)) (pss_one (ps_ret (pe_meth (pv 1) T.c_Threads T.M_Threads_add G_A (hr.mono (by decide)) b_A1 vA pass0 (pac (pv 3) pa_nil)))) pss_nil) pss_never))), ?_⟩
      refine int_yes rfl (iteT ⟨_, rfl, _, rfl, iteF ?_⟩)
      refine int_no (w := 0) rfl (by decide) (iteF (iteF ?_))
      refine int_yes rfl (iteT ?_)
      exact ⟨_, rfl, x, dx, _, rfl, sb.th.obj, rfl, _, rfl, x, dx, L, R, rowsE ts, nm, rfl, sb.th, rl, rowsE_no hm, fun H' th kp => k H' F _ us .non (sb.thr (by rw [rowsE_snoc]; exact th) kp).up (.inl ⟨rfl, rfl⟩) (.inr (.inr ⟨by decide, by decide, rfl⟩)) (kpL kp) (fun c hc => .inl hc) (.inl ⟨rfl, .inl rfl⟩)⟩
    · refine ⟨_, (pss_cons (ps_if (PW.pt (pw_and (pt_cmpR op_eq (pv 0) pe_int (nomark _)) (pw_and1 (pt_val (pv 4))))) pss_never pss_nil)
        (pss_cons (ps_if (PW.pt (pw_and (pt_cmpR op_eq (pv 0) pe_int (nomark _)) (pw_and1 (pt_val (pv 4))))) pss_never pss_nil)
        (pss_cons (ps_if (pt_cmpR op_eq (pv 0) pe_int (nomark _)) pss_never pss_nil)
        (pss_cons (ps_if (pt_cmpR op_eq (pv 0) pe_int (nomark _)) (pss_one (ps_ret (pe_meth (pv 1) T.c_Threads T.M_Threads_take_out G_T (hr.mono (by decide)) b_T .nil pass0 (pac (pv 3) pa_nil)))) pss_nil) pss_never)))), ?_⟩
      refine int_no (w := 1) rfl (by decide) (iteF (iteF ?_))
      refine int_no (w := 1) rfl (by decide) (iteF (iteF ?_))
      refine int_no (w := 1) rfl (by decide) (iteF ?_)
      refine int_yes rfl (iteT ?_)
      exact ⟨_, rfl, x, dx, _, rfl, sb.th.obj, rfl, _, rfl, x, dx, L, R, rowsE ts, nm, rfl, sb.th, rowsE_up hm, fun H' th kp => k H' F _ us .non (sb.thr (ts' := noS ts nm) (by unfold noS; rw [← rowsE_without]; exact th) kp).up (.inr (.inl ⟨rfl, rfl⟩)) (.inr (.inr ⟨by decide, by decide, rfl⟩)) (kpL kp) (fun c hc => .inl hc) (.inl ⟨rfl, .inr (.inl rfl)⟩)⟩
    · refine ⟨_, (pss_cons (ps_if (PW.pt (pw_and (pt_cmpR op_eq (pv 0) pe_int (nomark _)) (pw_and1 (pt_val (pv 4))))) pss_never pss_nil)
        (pss_cons (ps_if (PW.pt (pw_and (pt_cmpR op_eq (pv 0) pe_int (nomark _)) (pw_and1 (pt_val (pv 4))))) pss_never pss_nil)
        (pss_cons (ps_if (pt_cmpR op_eq (pv 0) pe_int (nomark _)) pss_never pss_nil)
        (pss_cons (ps_if (pt_cmpR op_eq (pv 0) pe_int (nomark _)) pss_never pss_nil)
        (pss_cons (ps_if (pt_cmpR op_eq (pv 0) pe_int (nomark _)) (pss_one (ps_ret (pe_meth (pv 1) T.c_Threads T.M_Threads_thread G_H (hr.mono (by decide)) b_H .nil pass0 (pac (pv 3) pa_nil)))) pss_nil) pss_never))))), ?_⟩
      refine int_no (w := 2) rfl (by decide) (iteF (iteF ?_))
      refine int_no (w := 2) rfl (by decide) (iteF (iteF ?_))
      refine int_no (w := 2) rfl (by decide) (iteF ?_)
      refine int_no (w := 2) rfl (by decide) (iteF ?_)
      refine int_yes rfl (iteT ?_)
      exact ⟨_, rfl, x, dx, _, rfl, sb.th.obj, rfl, _, rfl, x, rowsE ts, 40, nm, rfl, ths, noe, (by rw [rowsE_names]; exact hm), fun l H' hl sH el => k H' F ts us (.ref l) (sb.same sH).up (.inr (.inr ⟨by decide, by decide, rfl⟩)) (.inr (.inr ⟨by decide, by decide, rfl⟩)) (fun c o _ e => sH c o e) (fun c hc => .inl hc) (.inr (.inr ⟨l, _, rfl, hl, el, .inl ⟨rfl, rowsE_thr (by have := sb.th.nd; rw [rowsE_names] at this; exact this) hm (hne nm hm)⟩⟩))⟩
    · refine ⟨_, (pss_cons (ps_if (PW.pt (pw_and (pt_cmpR op_eq (pv 0) pe_int (nomark _)) (pw_and1 (pt_val (pv 4))))) pss_never pss_nil)
        (pss_cons (ps_if (PW.pt (pw_and (pt_cmpR op_eq (pv 0) pe_int (nomark _)) (pw_and1 (pt_val (pv 4))))) pss_never pss_nil)
        (pss_cons (ps_if (pt_cmpR op_eq (pv 0) pe_int (nomark _)) pss_never pss_nil)
        (pss_cons (ps_if (pt_cmpR op_eq (pv 0) pe_int (nomark _)) pss_never pss_nil)
        (pss_cons (ps_if (pt_cmpR op_eq (pv 0) pe_int (nomark _)) pss_never pss_nil)
        (pss_cons (ps_if (pt_cmpR op_eq (pv 0) pe_int (nomark _)) (pss_one (ps_ret (pe_meth (pv 1) T.c_Threads T.M_Threads_depth G_D (hr.mono (by decide)) b_D .nil pass0 (pac (pv 3) pa_nil)))) pss_nil) pss_never)))))), ?_⟩
      refine int_no (w := 3) rfl (by decide) (iteF (iteF ?_))
      refine int_no (w := 3) rfl (by decide) (iteF (iteF ?_))
      refine int_no (w := 3) rfl (by decide) (iteF ?_)
      refine int_no (w := 3) rfl (by decide) (iteF ?_)
      refine int_no (w := 3) rfl (by decide) (iteF ?_)
      refine int_yes rfl (iteT ?_)
      exact ⟨_, rfl, x, dx, _, rfl, sb.th.obj, rfl, _, rfl, x, rowsE ts, 40, nm, rfl, ths, (by rw [rowsE_names]; exact hm), fun H' sH => k H' F ts us _ (sb.same sH).up (.inr (.inr ⟨by decide, by decide, rfl⟩)) (.inr (.inr ⟨by decide, by decide, rfl⟩)) (fun c o _ e => sH c o e) (fun c hc => .inl hc) (.inr (.inl ⟨by rw [rowsE_depth hm hne], rfl⟩))⟩
    · refine ⟨_, (pss_cons (ps_if (PW.pt (pw_and (pt_cmpR op_eq (pv 0) pe_int (nomark _)) (pw_and1 (pt_val (pv 4))))) pss_never pss_nil)
        (pss_cons (ps_if (PW.pt (pw_and (pt_cmpR op_eq (pv 0) pe_int (nomark _)) (pw_and1 (pt_val (pv 4))))) pss_never pss_nil)
        (pss_cons (ps_if (pt_cmpR op_eq (pv 0) pe_int (nomark _)) pss_never pss_nil)
        (pss_cons (ps_if (pt_cmpR op_eq (pv 0) pe_int (nomark _)) pss_never pss_nil)
        (pss_cons (ps_if (pt_cmpR op_eq (pv 0) pe_int (nomark _)) pss_never pss_nil)
        (pss_cons (ps_if (pt_cmpR op_eq (pv 0) pe_int (nomark _)) pss_never pss_nil)
        (pss_cons (ps_if (pt_cmpR op_eq (pv 0) pe_int (nomark _)) (pss_one (ps_ret (pe_meth (pv 2) T.c_Index T.M_Index_add G_B (hr.mono (by decide)) b_B .nil pass0 (pac (pv 3) (pac (pe_lstS (pas_cons (pv 3) (pas_cons pe_str pas_nil))) pa_nil))))) pss_nil) pss_never))))))), ?_⟩
      refine int_no (w := 4) rfl (by decide) (iteF (iteF ?_))
      refine int_yes rfl (iteT ⟨_, rfl, _, rfl, iteF ?_⟩)
      refine int_no (w := 4) rfl (by decide) (iteF ?_)
      refine int_no (w := 4) rfl (by decide) (iteF ?_)
      refine int_no (w := 4) rfl (by decide) (iteF ?_)
      refine int_no (w := 4) rfl (by decide) (iteF ?_)
      refine int_yes rfl (iteT ?_)
      refine ⟨_, rfl, y, dy, _, rfl, oy, rfl, _, rfl, _, rfl, (by show 2 ≤ sizeLine; decide), fun l hl => ?_⟩
      have s1 : Same H (upd H l (.lst ([nm, "rent"].map V.str))) := Same.upd_new hl
      have sb1 := sb.same s1
      refine ⟨y, l, nwE us, W, n, F, nm, [nm, "rent"], rfl, sb1.ix, by omega, (by rw [nwE_names]; exact hm), upd_same, (fun t ht => ?_), by show 2 ≤ 60; decide, fun H' F' ix kp sbs => ?_⟩
      · rcases List.mem_cons.mp ht with rfl | ht
        · exact hnW
        · rw [List.mem_singleton.mp ht]; exact hrW
      · exact k H' F' ts _ .non (sb1.inx (us' := us ++ [nm]) (by rw [nwE_snoc]; exact ix) kp sbs) (.inr (.inr ⟨by decide, by decide, rfl⟩)) (.inl ⟨rfl, rfl⟩) (kpF fun c o hc e => kp c o hc (s1 _ _ e)) (fun c hc => (sbs c hc).imp id s1.free) (.inl ⟨rfl, .inr (.inr (.inl rfl))⟩)
    · refine ⟨_, (pss_cons (ps_if (PW.pt (pw_and (pt_cmpR op_eq (pv 0) pe_int (nomark _)) (pw_and1 (pt_val (pv 4))))) pss_never pss_nil)
        (pss_cons (ps_if (PW.pt (pw_and (pt_cmpR op_eq (pv 0) pe_int (nomark _)) (pw_and1 (pt_val (pv 4))))) pss_never pss_nil)
        (pss_cons (ps_if (pt_cmpR op_eq (pv 0) pe_int (nomark _)) pss_never pss_nil)
        (pss_cons (ps_if (pt_cmpR op_eq (pv 0) pe_int (nomark _)) pss_never pss_nil)
        (pss_cons (ps_if (pt_cmpR op_eq (pv 0) pe_int (nomark _)) pss_never pss_nil)
        (pss_cons (ps_if (pt_cmpR op_eq (pv 0) pe_int (nomark _)) pss_never pss_nil)
        (pss_cons (ps_if (pt_cmpR op_eq (pv 0) pe_int (nomark _)) pss_never pss_nil)
        (pss_cons (ps_if (pt_cmpR op_eq (pv 0) pe_int (nomark _)) (pss_one (ps_ret (pe_meth (pv 2) T.c_Index T.M_Index_take_out G_I (hr.mono (by decide)) b_I .nil pass0 (pac (pv 3) pa_nil)))) pss_nil) pss_never)))))))), ?_⟩
      refine int_no (w := 5) rfl (by decide) (iteF (iteF ?_))
      refine int_no (w := 5) rfl (by decide) (iteF (iteF ?_))
      refine int_no (w := 5) rfl (by decide) (iteF ?_)
      refine int_no (w := 5) rfl (by decide) (iteF ?_)
      refine int_no (w := 5) rfl (by decide) (iteF ?_)
      refine int_no (w := 5) rfl (by decide) (iteF ?_)
      refine int_no (w := 5) rfl (by decide) (iteF ?_)
      refine int_yes rfl (iteT ?_)
      exact ⟨_, rfl, y, dy, _, rfl, oy, rfl, _, rfl, y, nwE us, W, n, F, nm, rfl, sb.ix, (by rw [nwE_names]; exact hm), fun H' F' ix kp sbs => k H' F' ts _ .non (sb.inx (us' := noS us nm) (by unfold noS; rw [← nwE_noN]; exact ix.up) kp fun c hc => .inl (sbs c hc)) (.inr (.inr ⟨by decide, by decide, rfl⟩)) (.inr (.inl ⟨rfl, rfl⟩)) (kpF kp) (fun c hc => .inl (sbs c hc)) (.inl ⟨rfl, .inr (.inr (.inr rfl))⟩)⟩
    · refine ⟨_, (pss_cons (ps_if (PW.pt (pw_and (pt_cmpR op_eq (pv 0) pe_int (nomark _)) (pw_and1 (pt_val (pv 4))))) pss_never pss_nil)
        (pss_cons (ps_if (PW.pt (pw_and (pt_cmpR op_eq (pv 0) pe_int (nomark _)) (pw_and1 (pt_val (pv 4))))) pss_never pss_nil)
        (pss_cons (ps_if (pt_cmpR op_eq (pv 0) pe_int (nomark _)) pss_never pss_nil)
        (pss_cons (ps_if (pt_cmpR op_eq (pv 0) pe_int (nomark _)) pss_never pss_nil)
        (pss_cons (ps_if (pt_cmpR op_eq (pv 0) pe_int (nomark _)) pss_never pss_nil)
        (pss_cons (ps_if (pt_cmpR op_eq (pv 0) pe_int (nomark _)) pss_never pss_nil)
        (pss_cons (ps_if (pt_cmpR op_eq (pv 0) pe_int (nomark _)) pss_never pss_nil)
        (pss_cons (ps_if (pt_cmpR op_eq (pv 0) pe_int (nomark _)) pss_never pss_nil)
        (pss_one (ps_ret (pe_meth (pv 2) T.c_Index T.M_Index_words G_W (hr.mono (by decide)) b_W .nil pass0 (pac (pv 3) pa_nil)))))))))))), ?_⟩
      refine int_no (w := 6) rfl (by decide) (iteF (iteF ?_))
      refine int_no (w := 6) rfl (by decide) (iteF (iteF ?_))
      refine int_no (w := 6) rfl (by decide) (iteF ?_)
      refine int_no (w := 6) rfl (by decide) (iteF ?_)
      refine int_no (w := 6) rfl (by decide) (iteF ?_)
      refine int_no (w := 6) rfl (by decide) (iteF ?_)
      refine int_no (w := 6) rfl (by decide) (iteF ?_)
      refine int_no (w := 6) rfl (by decide) (iteF ?_)
      exact ⟨_, rfl, y, dy, _, rfl, oy, rfl, _, rfl, y, nwE us, W, n, F, nm, SS [nm, "rent"], rfl, sb.ix, List.mem_map.mpr ⟨nm, hm, rfl⟩, fun l H' hl sH el => k H' F ts us (.ref l) (sb.same sH).up (.inr (.inr ⟨by decide, by decide, rfl⟩)) (.inr (.inr ⟨by decide, by decide, rfl⟩)) (fun c o _ e => sH c o e) (fun c hc => .inl hc) (.inr (.inr ⟨l, _, rfl, hl, el, .inr ⟨rfl, rfl⟩⟩))⟩
end
theorem inV_ints {xs : List Int} {t : Int} : inV (.int t) (xs.map V.int) = decide (t ∈ xs) := by
  unfold inV
  rw [List.any_map, Bool.eq_iff_iff, List.any_eq_true, decide_eq_true_eq]
  constructor
  · rintro ⟨x, hx, e⟩
    have : x = t := eq_of_beq (show (x == t) = true from e)
    rw [← this]; exact hx
  · intro h
    exact ⟨t, h, show (t == t) = true from beq_self_eq_true t⟩
theorem flat_ints (xs : List Int) : (xs.map V.int).all flatV = true := by
  rw [List.all_map, List.all_eq_true]
  intro x _
  rfl
theorem in_lits {K : PySem.W.Frag} {i : Nat} {σ : St} {H : Hp} {Q : VK} {c : Int} {tl : TE} (ps : List Int) (h0 : σ[i]? = some (some (.int c))) (ht : ∀ Q' : VK, (∀ l, H l = none → Q' (.ref l) (upd H l (.lst (ps.map V.int)))) → tl σ H Q') (q : ∀ H', Same H H' → Q (.bl (decide (c ∈ ps))) H') : tOp (rIn K false) (tVar i) tl σ H Q := by
  refine ⟨_, h0, ht _ fun l hl => ⟨l, _, rfl, .inl (SqL.of upd_same), rfl, flat_ints _, ?_⟩⟩
  rw [if_neg Bool.false_ne_true, inV_ints]
  exact q _ (Same.upd_new hl)
noncomputable def dueD (c : Int) (nm : Str) : PyData := if c = 2 then .list [.str nm] else if c = 3 then .int 0 else if c = 6 then .list ((SS [nm, "rent"]).map PyData.str) else .none
theorem due_same : sortS ["rent"] = SS ["rent", "rent"] := rfl
theorem due_words {nm : Str} (h : nm ≠ "rent") : sortS [nm, "rent"] = SS [nm, "rent"] := by
  unfold SS
  exact sortS_congr ((List.perm_ext_iff_of_nodup (by simp [h]) (dd_nd _)).mpr fun x => mem_dd.symm)
inductive spDue_I (K : PySem.W.Frag) (vs : List V) (H : Hp) (Q : VK) : Prop
  | mk : ∀ (c : Int) (nm : Str), vs = [.int c, .str nm] → 0 ≤ c → c ≤ 6 → (∀ H' v, Same H H' → RD K H' v (dueD c nm) → Q v H') → spDue_I K vs H Q
noncomputable def spDue (K : PySem.W.Frag) : Sp := fun vs H Q _ => spDue_I K vs H Q
section
variable {P : Program} {w : World} {K : PySem.W.Frag} {mg : Str → Option Value} {base : Heap} {a : Adr}
theorem ok_due {fd : FuncData} (F : Fun K "_law_due" "_law_due" sl_due a.f_l_due fd) (T : Txt K mg a) : FnOk P w K mg base CX0 1 a.f_l_due fd ["_law_call", "_law_name"] (spDue K) := by
  refine F.ok sc_l_due (fun vs H Q E h => ?_) (fun cdv A outer s H vs Q E hr h => ?_)
  · obtain ⟨c, nm, rfl, _⟩ := h; rfl
  · obtain ⟨c, nm, rfl, c0, c6, k⟩ := h
    refine ⟨_, (pss_cons (ps_if (pt_cmpR op_in_seq (pv 0) (pe_lstS (pas_cons pe_int (pas_cons pe_int (pas_cons pe_int (pas_cons pe_int pas_nil))))) (by with_unfolding_all rfl)) (pss_one (ps_ret pe_non)) pss_nil)
        (pss_cons (ps_if (pt_cmpR op_eq (pv 0) pe_int (nomark _)) (pss_one (ps_ret (pe_lstS (pas_cons (pv 1) pas_nil)))) pss_nil)
        (pss_cons (ps_if (pt_cmpR op_eq (pv 0) pe_int (nomark _)) (pss_one (ps_ret pe_int)) pss_nil)
        (pss_one (ps_ret (pe_callB call_sorted rfl T.b_sorted PyProof.Rows.boot_sorted (pac (pe_op op_cat (pe_lstS (pas_cons (pv 1) pas_nil)) (pe_op op_rep (pe_lstS (pas_cons pe_str pas_nil)) (pe_callTy call_int1 rfl T.b_int PyProof.Rows.boot_int (pac (pe_cmpR op_ne (pv 1) pe_str (nomark _)) pa_nil)))) pa_nil))))))), ?_⟩
    refine in_lits (K := K) [0, 1, 4, 5] rfl (fun Q' h => ⟨by show 4 ≤ sizeLine; decide, fun l hl => h l hl⟩) fun H1 s1 => ⟨_, rfl, ?_⟩
    by_cases hin : c ∈ [0, 1, 4, 5]
    · rw [decide_eq_true hin]
      refine iteT (k H1 .non s1 ?_)
      have : dueD c nm = .none := by
        unfold dueD
        simp only [List.mem_cons, List.not_mem_nil, or_false] at hin
        rw [if_neg (by omega), if_neg (by omega), if_neg (by omega)]
      rw [this]; exact .non
    · rw [decide_eq_false hin]
      simp only [List.mem_cons, List.not_mem_nil, or_false, not_or] at hin
      refine iteF ?_
      by_cases h2 : c = 2
      · subst h2
        refine int_yes rfl (iteT ⟨_, rfl, (by show 1 ≤ sizeLine; decide), fun l hl => ?_⟩)
        exact k _ _ (s1.trans (Same.upd_new hl)) (.lst (SqL.of upd_same) (.cons (.str nm) .nil))
      refine int_no (w := c) rfl h2 (iteF ?_)
      by_cases h3 : c = 3
      · subst h3
        exact int_yes rfl (iteT (k _ _ s1 (.int 0)))
      refine int_no (w := c) rfl h3 (iteF ?_)
      have hd : dueD c nm = .list ((SS [nm, "rent"]).map PyData.str) := by
        unfold dueD
        rw [if_neg h2, if_neg h3, if_pos (by omega)]
      refine ⟨_, rfl, (by show 1 ≤ sizeLine; decide), fun l hl => ⟨(by show 1 ≤ sizeLine; decide), fun m hm => ?_⟩⟩
      have s2 : Same H1 (upd H1 l (.lst [.str nm])) := Same.upd_new hl
      have e2 : (upd H1 l (.lst [.str nm])) l = some (.lst [.str nm]) := upd_same
      generalize upd H1 l (.lst [.str nm]) = H2 at s2 e2 hm
      have s3 : Same H2 (upd H2 m (.lst [.str "rent"])) := Same.upd_new hm
      have e3 : (upd H2 m (.lst [.str "rent"])) m = some (.lst [.str "rent"]) := upd_same
      generalize upd H2 m (.lst [.str "rent"]) = H3 at s3 e3
      have fin : ∀ (H5 : Hp) (r : Addr) (ss : List Str), Same H3 H5 → H5 r = some (.lst (ss.map V.str)) → ss.length < 64 → sortS ss = SS [nm, "rent"] → ∃ p ss, [V.ref r] = [V.ref p] ∧ SqL K H5 p (ss.map V.str) ∧ ss.length < 64 ∧ ∀ l, H5 l = none → Q (.ref l) (upd H5 l (.lst ((sortS ss).map V.str))) := fun H5 r ss s5 er hl e => by
        refine ⟨r, ss, rfl, SqL.of er, hl, fun l hl => k _ _ (s1.trans (s2.trans (s3.trans (s5.trans (Same.upd_new hl))))) ?_⟩
        rw [hd, e]
        exact rd_strs (SqL.of upd_same)
      by_cases e : nm = "rent"
      · subst e
        refine ⟨_, rfl, rfl, .inr ⟨false, rfl, m, _, _, rfl, rfl, e3, by decide, by decide, by decide, fun p hp => ?_⟩⟩
        have s4 : Same H3 (upd H3 p (.lst [])) := Same.upd_new hp
        refine ⟨l, p, [.str "rent"], [], rfl, rfl, s4 _ _ (s3 _ _ e2), upd_same, by decide, fun r hr => ?_⟩
        exact fin _ r ["rent"] (s4.trans (Same.upd_new hr)) upd_same (by decide) due_same
      · have hb : (!decide (V.str nm = V.str "rent")) = true := by simp [e]
        refine ⟨_, rfl, rfl, .inr ⟨true, by rw [hb], m, _, _, rfl, rfl, e3, by decide, by decide, by decide, fun p hp => ?_⟩⟩
        have s4 : Same H3 (upd H3 p (.lst [.str "rent"])) := Same.upd_new hp
        refine ⟨l, p, [.str nm], [.str "rent"], rfl, rfl, s4 _ _ (s3 _ _ e2), upd_same, (by show 2 ≤ sizeLine; decide), fun r hr => ?_⟩
        exact fin _ r [nm, "rent"] (s4.trans (Same.upd_new hr)) upd_same (by show 2 < 64; decide) (due_words e)
end
structure SL (a : Adr) (H : Hp) (x y dx L R tl l0 l1 : Addr) (F : List Addr) (ts us W pool : List Str) : Prop where
  sb : SB a H x y dx L R F ts us W 10
  tl_ : H tl = some (.lst [.ref l0, .ref l1])
  h0 : H l0 = some (.lst (ts.map V.str))
  h1 : H l1 = some (.lst (us.map V.str))
  f0 : ¬ l0 ∈ F
  f1 : ¬ l1 ∈ F
  ft : ¬ tl ∈ F
  n01 : l0 ≠ l1
  nt0 : tl ≠ l0
  nt1 : tl ≠ l1
  ndt : ts.Nodup
  ndu : us.Nodup
  st : ∀ t ∈ ts, t ∈ pool
  su : ∀ t ∈ us, t ∈ pool
theorem SL.same {a : Adr} {H H' : Hp} {x y dx L R tl l0 l1 : Addr} {F : List Addr} {ts us W pool : List Str} (h : SL a H x y dx L R tl l0 l1 F ts us W pool) (s : Same H H') : SL a H' x y dx L R tl l0 l1 F ts us W pool :=
  ⟨h.sb.same s, s _ _ h.tl_, s _ _ h.h0, s _ _ h.h1, h.f0, h.f1, h.ft, h.n01, h.nt0, h.nt1, h.ndt, h.ndu, h.st, h.su⟩
theorem noS_mem {ts : List Str} {nm t : Str} (h : t ∈ noS ts nm) : t ∈ ts := (List.mem_filter.mp h).1
theorem noS_cut {pre post : List Str} {nm : Str} (nd : (pre ++ nm :: post).Nodup) : noS (pre ++ nm :: post) nm = pre ++ post := by
  unfold noS
  obtain ⟨h1, h2, h3⟩ := List.nodup_append.mp nd
  rw [List.filter_append, List.filter_cons_of_neg (by simp), List.filter_eq_self.mpr, List.filter_eq_self.mpr]
  · intro t ht
    exact decide_eq_true fun z => (List.nodup_cons.mp h2).1 (by rw [← z]; exact ht)
  · intro t ht
    exact decide_eq_true fun z => h3 t ht nm List.mem_cons_self z
theorem rem_str {K : PySem.W.Frag} {H : Hp} {Q : VK} {l : Addr} {ms : List Str} {nm : Str} (h : H l = some (.lst (ms.map V.str))) (nd : ms.Nodup) (hm : nm ∈ ms) (asc : ∀ t ∈ ms, Asc t) (q : Q .non (upd H l (.lst ((noS ms nm).map V.str)))) : rRemove K (.ref l) [.str nm] H Q := by
  obtain ⟨pre, post, rfl⟩ := List.append_of_mem hm
  have hd : ∀ t, Asc t → SeqAt.shaped (.str t) = true := fun t h => (show SeqAt.shaped (.str t) = true from by
    unfold SeqAt.shaped
    have := (lay_strs (xs := [t]) fun y hy => by rw [List.mem_singleton.mp hy]; exact h).1
    have e : (PyData.canLay0 (.str t) && true) = true := this
    rw [Bool.and_true] at e
    rw [e]; rfl)
  refine ⟨l, _, (pre ++ nm :: post).map PyData.str, .str nm, .str nm, pre.length, rfl, rfl, h, rds_strs _, .str nm, ?_, hd nm (asc nm hm), ?_, ?_, ?_⟩
  · intro e he
    obtain ⟨t, ht, rfl⟩ := List.mem_map.mp he
    exact hd t (asc t ht)
  · rw [List.length_map, List.length_append, List.length_cons]; omega
  · intro m e hm1 he
    rw [List.getElem?_map] at he
    obtain ⟨t, ht, rfl⟩ := Option.map_eq_some_iff.mp he
    have heq : PyData.eqv (.str t) (.str nm) = decide (t = nm) := rfl
    rw [heq]
    by_cases hmj : m = pre.length
    · subst hmj
      rw [List.getElem?_append_right (Nat.le_refl _), Nat.sub_self] at ht
      cases ht
      rw [decide_eq_true rfl, decide_eq_true rfl]
    · rw [decide_eq_false hmj]
      have hlt : m < pre.length := by omega
      rw [List.getElem?_append_left hlt] at ht
      exact decide_eq_false fun z => (List.nodup_append.mp nd).2.2 t (List.mem_of_getElem? ht) nm List.mem_cons_self z
  · rw [show ((pre ++ nm :: post).map V.str).eraseIdx pre.length = (pre ++ post).map V.str by
      rw [List.map_append, List.map_cons, List.map_append]
      have hl : pre.length = (pre.map V.str).length := (List.length_map _).symm
      rw [hl, List.eraseIdx_append_of_length_le (Nat.le_refl _), Nat.sub_self]
      rfl]
    rw [noS_cut nd] at q
    exact q
theorem RD.mono {K : PySem.W.Frag} {H H' : Hp} (s : Same H H') {x : V} {d : PyData} (h : RD K H x d) : RD K H' x d :=
  RD.rec (motive_1 := fun x d _ => RD K H' x d) (motive_2 := fun xs ds _ => RDs K H' xs ds) .non .bl .int .str (fun h _ r => .lst (s.seq h) r) (fun h _ r => .tup (s.tup h) r) .nil (fun _ _ r rs => .cons r rs) h
theorem RDs.mono {K : PySem.W.Frag} {H H' : Hp} (s : Same H H') {xs : List V} {ds : List PyData} (h : RDs K H xs ds) : RDs K H' xs ds :=
  RDs.rec (motive_1 := fun x d _ => RD K H' x d) (motive_2 := fun xs ds _ => RDs K H' xs ds) .non .bl .int .str (fun h _ r => .lst (s.seq h) r) (fun h _ r => .tup (s.tup h) r) .nil (fun _ _ r rs => .cons r rs) h
theorem kitNB {K : PySem.W.Frag} : PySem.W.kitOne K (.type "NoneType") (.type "bool") = some false := by kernel_rfl
theorem kitIB {K : PySem.W.Frag} : PySem.W.kitOne K (.type "int") (.type "bool") = some false := by kernel_rfl
theorem kitLB {K : PySem.W.Frag} : PySem.W.kitOne K (.type "list") (.type "bool") = some false := by kernel_rfl
theorem cut_cont {G : Prop} {S R : Hp → Prop} (cont : ∀ H7, S H7 → R H7) (main : (∀ H7, S H7 → R H7) → G) : G := main cont
theorem vbl {p r : Bool} : decide (V.bl p = V.bl r) = decide (p = r) := by cases p <;> cases r <;> rfl
theorem shaped_strs {xs : List Str} (h : ∀ x ∈ xs, Asc x) : SeqAt.shaped (.list (xs.map PyData.str)) = true := by
  obtain ⟨h1, h2⟩ := lay_strs h
  unfold SeqAt.shaped
  have e1 : PyData.canLay0 (.list (xs.map PyData.str)) = true := h1
  rw [e1]
  have e2 : PyData.depth (.list (xs.map PyData.str)) ≤ 64 := by
    show PyData.depthAll (xs.map PyData.str) + 1 ≤ 64
    omega
  rw [decide_eq_true e2]
  rfl
theorem asc_rent : Asc "rent" := by
  intro c hc
  revert c
  decide +kernel
theorem dueD_ok {c : Int} {nm : Str} (h : Asc nm) : SeqAt.shaped (dueD c nm) = true := by
  unfold dueD
  split
  · exact shaped_strs (xs := [nm]) fun x hx => by rw [List.mem_singleton.mp hx]; exact h
  · split
    · rfl
    · split
      · refine shaped_strs fun x hx => ?_
        rcases mem_SS2.mp hx with rfl | rfl
        · exact h
        · exact asc_rent
      · rfl
inductive spStep_I (a : Adr) (vs : List V) (H : Hp) (Q : VK) : Prop
  | mk : ∀ (x y dx L R tl l0 l1 : Addr) (F : List Addr) (ts us W pool : List Str) (c : Int) (nm : Str), vs = [.int c, .ref x, .ref y, .str nm, .ref tl] → 0 ≤ c → c ≤ 6 → SL a H x y dx L R tl l0 l1 F ts us W pool → nm ∈ pool → pool.length ≤ 10 → (∀ t ∈ pool, WordS t) → (∀ t ∈ pool, t ∈ W) → ("rent" : Str) ∈ W →
    (∀ H' F' ts' us', SL a H' x y dx L R tl l0 l1 F' ts' us' W pool → (∀ b o, ¬ b ∈ F → b ≠ L → b ≠ l0 → b ≠ l1 → H b = some o → H' b = some o) → (∀ b ∈ F', b ∈ F ∨ H b = none) → Q (.bl true) H') → spStep_I a vs H Q
noncomputable def spStep (a : Adr) : Sp := fun vs H Q _ => spStep_I a vs H Q
theorem word_ne {t : Str} (h : WordS t) : t ≠ "" := fun z => by
  have := h.1
  rw [z] at this
  exact absurd this (by decide)
section
variable {P : Program} {w : World} {K : PySem.W.Frag} {mg : Str → Option Value} {base : Heap} {a : Adr}
theorem ok_step {fd : FuncData} (F : Fun K "_law_step" "_law_step" sl_step a.f_l_step fd) (T : Txt K mg a) (FF : Funs K a) : FnOk P w K mg base CX0 5 a.f_l_step fd ["_law_call", "_law_threads", "_law_index", "_law_name", "_law_there"] (spStep a) := by
  obtain ⟨fdR, F_l_refused, b_l_refused⟩ := FF.F_l_refused
  obtain ⟨fdC, F_l_called, b_l_called⟩ := FF.F_l_called
  obtain ⟨fdD, F_l_due, b_l_due⟩ := FF.F_l_due
  have G_l_refused : FnOk P w K mg base CX0 4 a.f_l_refused fdR ["_law_call", "_law_threads", "_law_index", "_law_name"] (spRefd a) := ok_refd F_l_refused T FF
  have G_l_called : FnOk P w K mg base CX0 4 a.f_l_called fdC ["_law_call", "_law_threads", "_law_index", "_law_name", "_law_bad"] (spCalled a) := ok_called F_l_called T FF
  have G_l_due : FnOk P w K mg base CX0 1 a.f_l_due fdD ["_law_call", "_law_name"] (spDue K) := ok_due F_l_due T
  refine F.ok sc_l_step (fun vs H Q E h => ?_) (fun cdv A outer s H vs Q E hr h => ?_)
  · obtain ⟨x, y, dx, L, R, tl, l0, l1, F, ts, us, W, pool, c, nm, rfl, _⟩ := h; rfl
  · obtain ⟨x, y, dx, L, R, tl, l0, l1, F, ts, us, W, pool, c, nm, rfl, c0, c6, hS, hnp, hpl, hpw, hpW, hrW, k⟩ := h
    have hr_l_refused : Room 4 _ := hr
    have hr_l_called : Room 4 _ := hr
    have hr_l_due : Room 1 _ := hr.mono (by decide)
    have hu64 := hr.units
    have hu70 : (A.deeper (PyProof.Rows.envOfC "_law_step" (defScope sl_step) s.heap.objs.size a.f_l_step cdv)).units + 70 < cLine := by have := hr.un; omega
    refine ⟨_, (pss_cons (ps_set (i := 5) sc_l_step.nd rfl (Or.inl rfl) (pe_ix ix_list (pv 4) (pe_callTy call_int1 rfl T.b_int PyProof.Rows.boot_int (pac (pe_cmpR op_gt (pv 0) pe_int (nomark _)) pa_nil)) (fun _ _ => rfl)))
        (pss_cons (ps_if (pt_cmpR op_eq (pe_cmpR op_in_seq (pv 3) (pv 5) (by with_unfolding_all rfl)) (pe_cmpR op_in_seq (pv 0) (pe_lstS (pas_cons pe_int (pas_cons pe_int pas_nil))) (by with_unfolding_all rfl)) (nomark _)) (pss_one (ps_ret (pe_call G_l_refused hr_l_refused rfl T.m_l_refused F_l_refused.kp b_l_refused .nil pass0 (pac (pv 0) (pac (pv 1) (pac (pv 2) (pac (pv 3) pa_nil))))))) pss_nil)
        (pss_cons (ps_set (i := 6) sc_l_step.nd rfl (Or.inl rfl) (pe_call G_l_called hr_l_called rfl T.m_l_called F_l_called.kp b_l_called .nil pass0 (pac (pv 0) (pac (pv 1) (pac (pv 2) (pac (pv 3) (pac pe_bl pa_nil)))))))
        (pss_cons (ps_if (pt_cmpR op_in_seq (pv 0) (pe_lstS (pas_cons pe_int (pas_cons pe_int pas_nil))) (by with_unfolding_all rfl)) (pss_one (ps_expr (pe_bm PySem.F.plainAttrs_list PySem.F.slot_list_append PySem.F.type_list_append mt_append (pv 5) (pac (pv 3) pa_nil)))) pss_nil)
        (pss_cons (ps_if (pt_cmpR op_in_seq (pv 0) (pe_lstS (pas_cons pe_int (pas_cons pe_int pas_nil))) (by with_unfolding_all rfl)) (pss_one (ps_expr (pe_bm PySem.F.plainAttrs_list PySem.F.slot_list_remove PySem.F.type_list_remove (mt_remove hu70) (pv 5) (pac (pv 3) pa_nil)))) pss_nil)
        (pss_cons (ps_if (pt_val (pe_callB call_isinst rfl T.b_isinstance PyProof.Rows.boot_isinstance (pac (pv 6) (pac (pe_bltn (v := .ty "bool") rfl T.b_bool PyProof.Rows.boot_bool rfl) pa_nil)))) (pss_one (ps_ret pe_bl)) pss_nil)
        (pss_one (ps_ret (pe_cmpR (op_eqD hu64) (pv 6) (pe_call G_l_due hr_l_due rfl T.m_l_due F_l_due.kp b_l_due .nil pass0 (pac (pv 0) (pac (pv 3) pa_nil))) (nomark _)))))))))), ?_⟩
    have hla : ∀ (ms : List Str), ms.Nodup → (∀ t ∈ ms, t ∈ pool) → ms.length ≤ 10 := fun ms h1 h2 => by
      have := nodup_le h1 h2
      omega
    obtain ⟨li, ms, eli, hli, hmem⟩ : ∃ li ms, atI [V.ref l0, V.ref l1] (if decide (3 < c) = true then 1 else 0) = some (.ref li) ∧ H li = some (.lst (ms.map V.str)) ∧ ((3 < c ∧ li = l1 ∧ ms = us) ∨ (c ≤ 3 ∧ li = l0 ∧ ms = ts)) := by
      by_cases h : 3 < c
      · rw [decide_eq_true h]; exact ⟨l1, us, rfl, hS.h1, .inl ⟨h, rfl, rfl⟩⟩
      · rw [decide_eq_false h]; exact ⟨l0, ts, rfl, hS.h0, .inr ⟨by omega, rfl, rfl⟩⟩
    have ndm : ms.Nodup := by rcases hmem with ⟨_, _, rfl⟩ | ⟨_, _, rfl⟩; exact hS.ndu; exact hS.ndt
    have smp : ∀ t ∈ ms, t ∈ pool := by rcases hmem with ⟨_, _, rfl⟩ | ⟨_, _, rfl⟩; exact hS.su; exact hS.st
    have liF : ¬ li ∈ F := by rcases hmem with ⟨_, rfl, _⟩ | ⟨_, rfl, _⟩; exact hS.f1; exact hS.f0
    refine ⟨_, rfl, _, rfl, _, _, rfl, rfl, .inr ⟨_, rfl, tl, _, _, .ref li, rfl, rfl, SqL.of hS.tl_, eli, ?_⟩⟩
    refine ⟨_, rfl, _, rfl, li, _, rfl, .inl (SqL.of hli), rfl, flat_strs _, in_lits (K := K) [0, 4] rfl (fun Q' h => ⟨by show 2 ≤ sizeLine; decide, fun l hl => h l hl⟩) fun H1 s1 => ⟨rfl, _, rfl, ?_⟩⟩
    rw [if_neg Bool.false_ne_true, inV_strs, vbl]
    have hS1 := hS.same s1
    by_cases hq : decide (nm ∈ ms) = decide (c ∈ ([0, 4] : List Int))
    · rw [decide_eq_true hq]
      refine iteT ⟨_, rfl, _, rfl, _, rfl, _, rfl, x, y, c, .str nm, rfl, hS1.sb.refA ?_, fun H2 s2 => k H2 F ts us (hS1.same s2) (fun b o _ _ _ _ e => s2 _ _ (s1 _ _ e)) fun b hb => .inl hb⟩
      by_cases hm : nm ∈ ms
      · rw [decide_eq_true hm] at hq
        have hc := of_decide_eq_true hq.symm
        simp only [List.mem_cons, List.not_mem_nil, or_false] at hc
        rcases hmem with ⟨h3, _, rfl⟩ | ⟨h3, _, rfl⟩
        · exact .inr (.inr (.inl ⟨by omega, nm, rfl, hm⟩))
        · exact .inl ⟨by omega, nm, rfl, hm⟩
      · rw [decide_eq_false hm] at hq
        have hc := of_decide_eq_false hq.symm
        simp only [List.mem_cons, List.not_mem_nil, or_false, not_or] at hc
        rcases hmem with ⟨h3, _, rfl⟩ | ⟨h3, _, rfl⟩
        · exact .inr (.inr (.inr ⟨by omega, .inr (.inr ⟨nm, rfl, hm⟩)⟩))
        · exact .inr (.inl ⟨by omega, .inr (.inr ⟨nm, rfl, hm⟩)⟩)
    · rw [decide_eq_false hq]
      refine iteF ?_
      have goc : GoC c nm ts us := by
        by_cases hm : nm ∈ ms
        · rw [decide_eq_true hm] at hq
          have hc : ¬ c ∈ ([0, 4] : List Int) := fun z => hq (decide_eq_true z).symm
          simp only [List.mem_cons, List.not_mem_nil, or_false, not_or] at hc
          rcases hmem with ⟨h3, _, rfl⟩ | ⟨h3, _, rfl⟩
          · exact .inr (.inr (.inr ⟨by omega, hm⟩))
          · exact .inr (.inl ⟨by omega, hm⟩)
        · rw [decide_eq_false hm] at hq
          have hc : c ∈ ([0, 4] : List Int) := Classical.byContradiction fun z => hq (decide_eq_false z).symm
          simp only [List.mem_cons, List.not_mem_nil, or_false] at hc
          rcases hmem with ⟨h3, _, rfl⟩ | ⟨h3, _, rfl⟩
          · exact .inr (.inr (.inl ⟨by omega, hm⟩))
          · exact .inl ⟨by omega, hm⟩
      refine ⟨_, rfl, _, rfl, _, rfl, _, rfl, x, y, dx, L, R, F, ts, us, W, 10, c, nm, rfl, hS1.sb, (by have := hla ts hS.ndt hS.st; omega), by decide, (fun t ht => word_ne (hpw t (hS.st t ht))), hpW nm hnp, hrW, goc, fun H2 F2 ts2 us2 v sb2 aft afu kp2 sbs2 dv => ?_⟩
      have ndt2 : ts2.Nodup := by have := sb2.th.nd; rw [rowsE_names] at this; exact this
      have ndu2 : us2.Nodup := by have := sb2.ix.nd; rw [nwE_names] at this; exact this
      have sp2 : (∀ t ∈ ts2, t ∈ pool) ∧ ∀ t ∈ us2, t ∈ pool := by
        constructor
        · rcases aft with ⟨_, rfl⟩ | ⟨_, rfl⟩ | ⟨_, _, rfl⟩
          · exact fun t ht => (List.mem_append.mp ht).elim (hS.st t) fun z => by rw [List.mem_singleton.mp z]; exact hnp
          · exact fun t ht => hS.st t (noS_mem ht)
          · exact hS.st
        · rcases afu with ⟨_, rfl⟩ | ⟨_, rfl⟩ | ⟨_, _, rfl⟩
          · exact fun t ht => (List.mem_append.mp ht).elim (hS.su t) fun z => by rw [List.mem_singleton.mp z]; exact hnp
          · exact fun t ht => hS.su t (noS_mem ht)
          · exact hS.su
      have nL : ∀ {b : Addr} {xs : List V}, H1 b = some (.lst xs) → b ≠ L := fun e => ne_of e hS1.sb.th.lk fun z => nomatch z
      have out : ∀ {b : Addr} {xs : List V}, H1 b = some (.lst xs) → ¬ b ∈ F → ¬ b ∈ L :: F := fun e h z => (List.mem_cons.mp z).elim (nL e) h
      have tl2 := kp2 _ _ (out hS1.tl_ hS.ft) hS1.tl_
      have h02 := kp2 _ _ (out hS1.h0 hS.f0) hS1.h0
      have h12 := kp2 _ _ (out hS1.h1 hS.f1) hS1.h1
      have nF2 : ∀ {b : Addr} {o : HO}, H1 b = some o → ¬ b ∈ F → ¬ b ∈ F2 := fun e h z => (sbs2 _ z).elim h fun q => by rw [e] at q; cases q
      have sb10 : SB a H2 x y dx L R F2 ts2 us2 W 10 := ⟨sb2.th, sb2.ix.at (by unfold nwE; rw [List.length_map]; exact hla us2 ndu2 sp2.2), sb2.lF, sb2.rF⟩
      have asc : ∀ t ∈ ms, Asc t := fun t ht => (hpw t (smp t ht)).asc
      have hml := hla ms ndm smp
      have li2 : H2 li = some (.lst (ms.map V.str)) := by rcases hmem with ⟨_, rfl, rfl⟩ | ⟨_, rfl, rfl⟩; exact h12; exact h02
      -- what is left when li holds ms'
      have fin : ∀ (G : Hp) (ms' : List Str), (∀ b o, b ≠ li → H2 b = some o → G b = some o) → G li = some (.lst (ms'.map V.str)) → (((c = 0 ∨ c = 4) ∧ ms' = ms ++ [nm]) ∨ ((c = 1 ∨ c = 5) ∧ ms' = noS ms nm) ∨ (c ≠ 0 ∧ c ≠ 4 ∧ c ≠ 1 ∧ c ≠ 5 ∧ ms' = ms)) → SL a G x y dx L R tl l0 l1 F2 ts2 us2 W pool ∧ ∀ b o, b ≠ l0 → b ≠ l1 → H2 b = some o → G b = some o := fun G ms' kG eG hc => by
        have liF2 : ¬ li ∈ F2 := by rcases hmem with ⟨_, rfl, _⟩ | ⟨_, rfl, _⟩; exact nF2 hS1.h1 hS.f1; exact nF2 hS1.h0 hS.f0
        have sbG : SB a G x y dx L R F2 ts2 us2 W 10 := by
          obtain ⟨dy, E1, B1, oy⟩ := sb10.ix.obj
          refine ⟨sb10.th.keepE fun b o hb e => kG b o (fun z => ?_) e, sb10.ix.keep fun b o hb e => kG b o (fun z => ?_) e, sb10.lF, sb10.rF⟩
          · rcases hb with rfl | rfl | rfl
            · rw [z, li2] at e; have := sb10.th.obj; rw [z, li2] at this; cases this
            · have := sb10.th.lk; rw [z, li2] at this; cases this
            · have := sb10.th.rp; rw [z, li2] at this; cases this
          · rcases hb with rfl | hb
            · rw [z, li2] at oy; cases oy
            · exact liF2 (by rw [← z]; exact hb)
        have hts : G l0 = some (.lst (ts2.map V.str)) ∧ G l1 = some (.lst (us2.map V.str)) := by
          rcases hmem with ⟨h3, rfl, rfl⟩ | ⟨h3, rfl, rfl⟩
          · have e1 : ts2 = ts := by rcases aft with ⟨h, _⟩ | ⟨h, _⟩ | ⟨_, _, e⟩ <;> first | omega | exact e
            have e2 : us2 = ms' := by
              rcases afu with ⟨h, e⟩ | ⟨h, e⟩ | ⟨h, h', e⟩ <;> rcases hc with ⟨z, e'⟩ | ⟨z, e'⟩ | ⟨z1, z2, z3, z4, e'⟩ <;> first | omega | (rw [e, e'])
            rw [e1, e2]
            exact ⟨kG _ _ hS.n01 h02, eG⟩
          · have e1 : us2 = us := by rcases afu with ⟨h, _⟩ | ⟨h, _⟩ | ⟨_, _, e⟩ <;> first | omega | exact e
            have e2 : ts2 = ms' := by
              rcases aft with ⟨h, e⟩ | ⟨h, e⟩ | ⟨h, h', e⟩ <;> rcases hc with ⟨z, e'⟩ | ⟨z, e'⟩ | ⟨z1, z2, z3, z4, e'⟩ <;> first | omega | (rw [e, e'])
            rw [e1, e2]
            exact ⟨eG, kG _ _ hS.n01.symm h12⟩
        have tln : tl ≠ li := by rcases hmem with ⟨_, rfl, _⟩ | ⟨_, rfl, _⟩; exact hS.nt1; exact hS.nt0
        refine ⟨⟨sbG, kG _ _ tln tl2, hts.1, hts.2, nF2 hS1.h0 hS.f0, nF2 hS1.h1 hS.f1, nF2 hS1.tl_ hS.ft, hS.n01, hS.nt0, hS.nt1, ndt2, ndu2, sp2.1, sp2.2⟩, fun b o n0 n1 e => kG b o (fun z => ?_) e⟩
        rcases hmem with ⟨_, rfl, _⟩ | ⟨_, rfl, _⟩
        · exact n1 z
        · exact n0 z
      apply cut_cont (S := fun G => SL a G x y dx L R tl l0 l1 F2 ts2 us2 W pool ∧ ∀ b o, b ≠ l0 → b ≠ l1 → H2 b = some o → G b = some o)
      case main =>
        intro cont
        refine in_lits (K := K) [0, 4] rfl (fun Q' h => ⟨by show 2 ≤ sizeLine; decide, fun l hl => h l hl⟩) fun H3 s3 => ⟨_, rfl, ?_⟩
        have li3 := s3 _ _ li2
        by_cases hc : c ∈ ([0, 4] : List Int)
        · rw [decide_eq_true hc]
          refine iteT ⟨_, rfl, .inl ⟨rfl, _, SqL.of li3⟩, _, rfl, li, _, _, rfl, rfl, li3, (by rw [List.length_map]; exact small1000 (by omega)), ?_⟩
          have e4 : (upd H3 li (.lst (ms.map V.str ++ [V.str nm]))) li = some (.lst ((ms ++ [nm]).map V.str)) := by rw [upd_same, List.map_append]; rfl
          have k4 : ∀ b o, b ≠ li → H2 b = some o → (upd H3 li (.lst (ms.map V.str ++ [V.str nm]))) b = some o := fun b o ne e => by rw [upd_ne ne]; exact s3 _ _ e
          generalize upd H3 li (.lst (ms.map V.str ++ [V.str nm])) = H4 at e4 k4
          simp only [List.mem_cons, List.not_mem_nil, or_false] at hc
          refine in_lits (K := K) [1, 5] rfl (fun Q' h => ⟨by show 2 ≤ sizeLine; decide, fun l hl => h l hl⟩) fun H5 s5 => ⟨_, rfl, ?_⟩
          rw [decide_eq_false (fun z => by simp only [List.mem_cons, List.not_mem_nil, or_false] at z; omega)]
          exact iteF (cont H5 (fin H5 _ (fun b o ne e => s5 _ _ (k4 b o ne e)) (s5 _ _ e4) (.inl ⟨hc, rfl⟩)))
        · rw [decide_eq_false hc]
          simp only [List.mem_cons, List.not_mem_nil, or_false, not_or] at hc
          refine iteF ?_
          refine in_lits (K := K) [1, 5] rfl (fun Q' h => ⟨by show 2 ≤ sizeLine; decide, fun l hl => h l hl⟩) fun H5 s5 => ⟨_, rfl, ?_⟩
          have li5 := s5 _ _ li3
          by_cases hc2 : c ∈ ([1, 5] : List Int)
          · rw [decide_eq_true hc2]
            simp only [List.mem_cons, List.not_mem_nil, or_false] at hc2
            have hnm : nm ∈ ms := by
              rcases hmem with ⟨h3, _, rfl⟩ | ⟨h3, _, rfl⟩ <;> rcases goc with ⟨z, _⟩ | ⟨z, h⟩ | ⟨z, _⟩ | ⟨z, h⟩ <;> first | omega | exact h
            refine iteT ⟨_, rfl, .inl ⟨rfl, _, SqL.of li5⟩, _, rfl, rem_str li5 ndm hnm asc ?_⟩
            have e6 : (upd H5 li (.lst ((noS ms nm).map V.str))) li = some (.lst ((noS ms nm).map V.str)) := upd_same
            have k6 : ∀ b o, b ≠ li → H2 b = some o → (upd H5 li (.lst ((noS ms nm).map V.str))) b = some o := fun b o ne e => by rw [upd_ne ne]; exact s5 _ _ (s3 _ _ e)
            generalize upd H5 li (.lst ((noS ms nm).map V.str)) = H6 at e6 k6
            exact cont H6 (fin H6 _ k6 e6 (.inr (.inl ⟨hc2, rfl⟩)))
          · rw [decide_eq_false hc2]
            simp only [List.mem_cons, List.not_mem_nil, or_false, not_or] at hc2
            exact iteF (cont H5 (fin H5 ms (fun b o _ e => s5 _ _ (s3 _ _ e)) li5 (.inr (.inr ⟨hc.1, hc.2, hc2.1, hc2.2, rfl⟩))))
      case cont =>
        rintro G ⟨sG, kG⟩
        have hv : (∃ tv, TyOf K G v tv ∧ PySem.W.kitOne K tv (.type "bool") = some false) ∧ RD K G v (dueD c nm) := by
          rcases dv with ⟨rfl, h⟩ | ⟨rfl, h⟩ | ⟨l, xs, rfl, hl, el, h⟩
          · refine ⟨⟨_, .non, kitNB⟩, ?_⟩
            have : dueD c nm = .none := by unfold dueD; rw [if_neg (by omega), if_neg (by omega), if_neg (by omega)]
            rw [this]; exact .non
          · refine ⟨⟨_, .int 0, kitIB⟩, ?_⟩
            have : dueD c nm = .int 0 := by unfold dueD; rw [if_neg (by omega), if_pos h]
            rw [this]; exact .int 0
          · have lG := kG l _ (fun z => by rw [z, hS1.h0] at hl; cases hl) (fun z => by rw [z, hS1.h1] at hl; cases hl) el
            refine ⟨⟨_, .lst lG, kitLB⟩, ?_⟩
            have : dueD c nm = .list (xs.map PyData.str) := by
              unfold dueD
              rcases h with ⟨h, rfl⟩ | ⟨h, rfl⟩
              · rw [if_pos h]; rfl
              · rw [if_neg (by omega), if_neg (by omega), if_pos h]
            rw [this]
            exact rd_strs (SqL.of lG)
        obtain ⟨⟨tv, hty, hkit⟩, hrd⟩ := hv
        refine ⟨_, rfl, _, _, _, _, _, rfl, rfl, hty, hkit, _, rfl, iteF ?_⟩
        refine ⟨_, rfl, _, rfl, _, rfl, c, nm, rfl, c0, c6, fun H8 u s8 rd8 => ?_⟩
        have sh := dueD_ok (c := c) (hpw nm hnp).asc
        refine ⟨_, _, RD.mono s8 hrd, rd8, sh, sh, ?_⟩
        rw [SeqAt.eqv_refl _ (SeqAt.canLay_of_shaped sh)]
        exact k H8 F2 ts2 us2 (sG.same s8) (fun b o hF hL n0 n1 e => s8 _ _ (kG b o n0 n1 (kp2 b o (fun z => (List.mem_cons.mp z).elim hL hF) (s1 _ _ e)))) fun b hb => (sbs2 b hb).imp id s1.free
end
inductive spDraws_I (K : PySem.W.Frag) (vs : List V) (H : Hp) (Q : VK) : Prop
  | mk : ∀ (a : Addr) (ns : List Int) (n : Nat), vs = [.ref a, .int n] → SqL K H a (ns.map V.int) → n ≤ 1000 → (∀ (p : Addr) (rs : List Int) (H' : Hp), rs.length = n → (∀ r ∈ rs, 0 ≤ r ∧ r < 2147483629) → Same H H' → H' p = some (.lst (rs.map V.int)) → Q (.ref p) H') → spDraws_I K vs H Q
noncomputable def spDraws (K : PySem.W.Frag) : Sp := fun vs H Q _ => spDraws_I K vs H Q
theorem ok_draws {P : Program} {w : World} {K : PySem.W.Frag} {mg : Str → Option Value} {base : Heap} {a : Adr} {fd : FuncData} (F : Fun K "_law_draws" "_law_draws" sl_draws a.f_l_draws fd) (T : Txt K mg a) : FnOk P w K mg base CX0 1 a.f_l_draws fd ["_law_script", "_law_many"] (spDraws K) := by
  refine F.ok sc_l_draws (fun vs H Q E h => ?_) (fun cdv A outer s H vs Q E hr h => ?_)
  · obtain ⟨x, ns, n, rfl, _⟩ := h; rfl
  · obtain ⟨q, ns, n, rfl, hS, hn, k⟩ := h
    refine ⟨_, (pss_cons (ps_set (i := 2) sc_l_draws.nd rfl (Or.inl rfl) (pe_lstS pas_nil))
        (pss_cons (ps_set (i := 3) sc_l_draws.nd rfl (Or.inl rfl) pe_int)
        (pss_cons (ps_for PassesOwn.never rfl (pi_range1 rfl T.b_range (pac (pv 1) pa_nil)) (pg_name (i := 4) sc_l_draws.nd rfl (Or.inl rfl)) (pss_cons (ps_set (i := 5) sc_l_draws.nd rfl (Or.inl rfl) pe_int)
        (pss_cons (ps_if (pt_cmpR op_gt (pe_callB call_len_seq rfl T.b_len PySem.boot_len (pac (pv 0) pa_nil)) pe_int (nomark _)) (pss_one (ps_set (i := 5) sc_l_draws.nd rfl (Or.inl rfl) (pe_ix ix_list (pv 0) (pe_op op_mod (pv 4) (pe_callB call_len_seq rfl T.b_len PySem.boot_len (pac (pv 0) pa_nil))) (fun _ _ => rfl)))) pss_nil)
        (pss_cons (ps_set (i := 3) sc_l_draws.nd rfl (Or.inl rfl) (pe_op op_mod (pe_op op_add (pe_op op_add (pe_op op_add (pe_op op_mul (pv 3) pe_int) (pv 5)) (pv 4)) pe_int) pe_int))
        (pss_one (ps_expr (pe_bm PySem.F.plainAttrs_list PySem.F.slot_list_append PySem.F.type_list_append mt_append (pv 2) (pac (pe_op op_mod (pe_op op_mul (pv 3) (pv 3)) pe_int) pa_nil))))))))
        (pss_one (ps_ret (pv 2)))))), ?_⟩
    refine ⟨Nat.zero_le _, fun p hp => ?_⟩
    refine ⟨_, rfl, (n : Int), rfl, by omega, by omega, for_range (n := (n : Int).toNat) (fun i σ H2 => Ex4 fun (rs : List Int) (more : Int) (c1 c2 : Option V) => And7 (σ = [some (.ref q), some (.int n), some (.ref p), some (.int more), c1, c2]) (0 ≤ more) (more < 2147483647) (rs.length = i) ((∀ r ∈ rs, 0 ≤ r ∧ r < 2147483629)) (H2 p = some (.lst (rs.map V.int))) (Same H H2))
      ⟨[], 7, none, none, rfl, by decide, by decide, rfl, (fun _ h => nomatch h), upd_same, Same.upd_new hp⟩ ?_ ?_⟩
    · rintro i σ H2 hi ⟨rs, more, c1, c2, rfl, h0, h1, hl, hb, hp2, hs⟩
      have hS2 := hs.seq hS
      have hin : i < n := by omega
      have rest : ∀ z : Int, ∃ x : V, ([some (.ref q), some (.int n), some (.ref p), some (.int more), some (.int (0 + (i : Int))), some (.int z)] : St)[3]? = some (some x) ∧ True := fun z => ⟨_, rfl, trivial⟩
      refine ⟨_, rfl, q, _, rfl, .inl hS2, _, _, rfl, rfl, _, rfl, ?_⟩
      refine ite2 (fun hpos => ?_) (fun hneg => ?_)
      · have hpos' : 0 < (ns.map V.int).length := by simpa using hpos
        obtain ⟨v, hv, hm, _⟩ := atI_mod (xs := ns.map V.int) (0 + (i : Int)) hpos'
        obtain ⟨z, rfl, _⟩ := mem_map_int hm
        refine ⟨_, rfl, _, rfl, _, rfl, q, _, rfl, .inl hS2, _, _, rfl, rfl, (by omega), q, _, _, _, rfl, rfl, hS2, hv, ?_⟩
        refine ⟨_, rfl, _, _, rfl, rfl, .inl ⟨by omega, by omega⟩, _, rfl, _, _, rfl, rfl, _, rfl, _, _, rfl, rfl, _, _, rfl, rfl, _, _, rfl, rfl, (by show (0 : Int) < 2147483647; decide), ?_⟩
        have b0 : 0 ≤ (more * 48271 + z + (0 + (i : Int)) + 1) % 2147483647 := Int.emod_nonneg _ (by decide)
        have b1 : (more * 48271 + z + (0 + (i : Int)) + 1) % 2147483647 < 2147483647 := Int.emod_lt_of_pos _ (by decide)
        refine ⟨_, rfl, .inl ⟨rfl, _, SqL.of hp2⟩, _, rfl, _, rfl, _, _, rfl, rfl, .inl ⟨by omega, by omega⟩, _, _, rfl, rfl, (by show (0 : Int) < 2147483629; decide), p, _, _, rfl, rfl, hp2, (by rw [List.length_map]; exact small1000 (by omega)), ?_⟩
        refine ⟨rs ++ [_], _, _, _, rfl, b0, b1, by rw [List.length_append, hl]; rfl, fun r hr => ?_, by rw [List.map_append]; exact upd_same, hs.upd_of hp⟩
        rcases List.mem_append.mp hr with hr | hr
        · exact hb r hr
        · rw [List.mem_singleton.mp hr]
          exact ⟨Int.emod_nonneg _ (by decide), Int.emod_lt_of_pos _ (by decide)⟩
      · refine ⟨_, rfl, _, _, rfl, rfl, .inl ⟨by omega, by omega⟩, _, rfl, _, _, rfl, rfl, _, rfl, _, _, rfl, rfl, _, _, rfl, rfl, _, _, rfl, rfl, (by show (0 : Int) < 2147483647; decide), ?_⟩
        have b0 : 0 ≤ (more * 48271 + 0 + (0 + (i : Int)) + 1) % 2147483647 := Int.emod_nonneg _ (by decide)
        have b1 : (more * 48271 + 0 + (0 + (i : Int)) + 1) % 2147483647 < 2147483647 := Int.emod_lt_of_pos _ (by decide)
        refine ⟨_, rfl, .inl ⟨rfl, _, SqL.of hp2⟩, _, rfl, _, rfl, _, _, rfl, rfl, .inl ⟨by omega, by omega⟩, _, _, rfl, rfl, (by show (0 : Int) < 2147483629; decide), p, _, _, rfl, rfl, hp2, (by rw [List.length_map]; exact small1000 (by omega)), ?_⟩
        refine ⟨rs ++ [_], _, _, _, rfl, b0, b1, by rw [List.length_append, hl]; rfl, fun r hr => ?_, by rw [List.map_append]; exact upd_same, hs.upd_of hp⟩
        rcases List.mem_append.mp hr with hr | hr
        · exact hb r hr
        · rw [List.mem_singleton.mp hr]
          exact ⟨Int.emod_nonneg _ (by decide), Int.emod_lt_of_pos _ (by decide)⟩
    · rintro σ H2 ⟨rs, more, c1, c2, rfl, h0, h1, hl, hb, hp2, hs⟩
      refine ⟨_, rfl, k p rs H2 (by omega) hb hs hp2⟩
noncomputable def NotZ (x : Str) : Prop := x ≠ "zother" ∧ x ≠ "zfresh"
noncomputable def WordZ (x : Str) : Prop := WordS x ∧ NotZ x
theorem zother_l : ("zother" : Str).cps.toList = [122, 111, 116, 104, 101, 114] := by decide +kernel
theorem zfresh_l : ("zfresh" : Str).cps.toList = [122, 102, 114, 101, 115, 104] := by decide +kernel
theorem one_sign {x : Str} {c : Nat} (h : ∀ d ∈ x.cps.toList, d = c) : NotZ x := by
  constructor
  · intro e
    rw [e, zother_l] at h
    have h1 := h 122 (by simp)
    have h2 := h 111 (by simp)
    omega
  · intro e
    rw [e, zfresh_l] at h
    have h1 := h 122 (by simp)
    have h2 := h 102 (by simp)
    omega
noncomputable def Sgns (y : Str) (n : Nat) (P c d : Int) : Prop := ∀ j : Nat, j < n → (j : Int) ≠ P → (j : Int) ≠ P + 1 → y.cps.toList[j]? = atI aZ.cps.toList ((c + (0 + (j : Int)) * d) % 36)
theorem Sgns.snoc {y : Str} {n : Nat} {P c d : Int} (h : Sgns y n P c d) (hy : y.length = n) {s : Nat} (hs : (n : Int) ≠ P → (n : Int) ≠ P + 1 → atI aZ.cps.toList ((c + (0 + (n : Int)) * d) % 36) = some s) : Sgns (y ++ ⟨#[s]⟩) (n + 1) P c d := fun j hj n1 n2 => by
  have hl : y.cps.toList.length = n := by rw [← hy]; exact (by simp [Str.length])
  rw [cat_list]
  by_cases e : j = n
  · subst e
    rw [List.getElem?_append_right (by omega), hl, Nat.sub_self, hs n1 n2]
    rfl
  · rw [List.getElem?_append_left (by omega)]
    exact h j (by omega) n1 n2
theorem aZ_ix : ∀ n < 36, ∀ c < 123, 97 ≤ c → aZ.cps.toList[n]? = some c → n + 97 = c := by decide +kernel
theorem sgn_ix {z : Int} {k : Nat} (h : atI aZ.cps.toList (z % 36) = some k) (h1 : 97 ≤ k) (h2 : k < 123) : z % 36 = (k : Int) - 97 := by
  have z0 := Int.emod_nonneg z (b := 36) (by decide)
  have z1 := Int.emod_lt_of_pos z (b := 36) (by decide)
  obtain ⟨v, hv, _, hv2⟩ := atI_some (xs := aZ.cps.toList) (i := z % 36) z0 (by rw [aZ_len]; exact z1)
  rw [h] at hv
  cases hv
  have := aZ_ix (z % 36).toNat (by omega) k h2 h1 hv2
  omega
theorem ap3 {c d a b e : Int} {j : Nat} (h1 : (c + ((j : Nat) : Int) * d) % 36 = a) (h2 : (c + ((j + 1 : Nat) : Int) * d) % 36 = b) (h3 : (c + ((j + 2 : Nat) : Int) * d) % 36 = e) : (a + e - 2 * b) % 36 = 0 := by
  have e2 : c + ((j + 1 : Nat) : Int) * d = (c + (j : Int) * d) + d := by rw [Int.natCast_add, Int.add_mul]; omega
  have e3 : c + ((j + 2 : Nat) : Int) * d = (c + (j : Int) * d) + 2 * d := by rw [Int.natCast_add, Int.add_mul]; omega
  rw [e2] at h2; rw [e3] at h3
  generalize c + (j : Int) * d = x at *
  omega
theorem ap4 {c d a b e f : Int} (h1 : (c + ((0 : Nat) : Int) * d) % 36 = a) (h2 : (c + ((1 : Nat) : Int) * d) % 36 = b) (h3 : (c + ((4 : Nat) : Int) * d) % 36 = e) (h4 : (c + ((5 : Nat) : Int) * d) % 36 = f) : (b - a - (f - e)) % 36 = 0 := by omega
theorem Sgns.notZ {y : Str} {n : Nat} {P c d : Int} (h : Sgns y n P c d) (hy : y.length = n) (p0 : 0 ≤ P) (p1 : P + 2 ≤ n) : NotZ y := by
  have len : ∀ {l : List Nat}, y.cps.toList = l → n = l.length := fun e => by rw [← hy, ← e]; simp [Str.length]
  have get : ∀ {l : List Nat} (j k : Nat), y.cps.toList = l → l[j]? = some k → 97 ≤ k → k < 123 → j < n → (j : Int) ≠ P → (j : Int) ≠ P + 1 → (c + (j : Int) * d) % 36 = (k : Int) - 97 := fun {l} j k e hk k1 k2 hj n1 n2 => by
    have := h j hj n1 n2
    rw [e, hk, Int.zero_add] at this
    exact sgn_ix this.symm k1 k2
  constructor
  · intro e
    have e : y.cps.toList = [122, 111, 116, 104, 101, 114] := by rw [e]; exact zother_l
    have hn := len e
    simp only [List.length_cons, List.length_nil] at hn
    have g0 := get 0 122 e rfl (by decide) (by decide) (by omega)
    have g1 := get 1 111 e rfl (by decide) (by decide) (by omega)
    have g2 := get 2 116 e rfl (by decide) (by decide) (by omega)
    have g3 := get 3 104 e rfl (by decide) (by decide) (by omega)
    have g4 := get 4 101 e rfl (by decide) (by decide) (by omega)
    have g5 := get 5 114 e rfl (by decide) (by decide) (by omega)
    obtain z | z | z | z | z : P = 0 ∨ P = 1 ∨ P = 2 ∨ P = 3 ∨ P = 4 := by clear g0 g1 g2 g3 g4 g5 h get len; omega
    · subst z; exact absurd (ap3 (g2 (by decide) (by decide)) (g3 (by decide) (by decide)) (g4 (by decide) (by decide))) (by decide)
    · subst z; exact absurd (ap3 (g3 (by decide) (by decide)) (g4 (by decide) (by decide)) (g5 (by decide) (by decide))) (by decide)
    · subst z; exact absurd (ap4 (g0 (by decide) (by decide)) (g1 (by decide) (by decide)) (g4 (by decide) (by decide)) (g5 (by decide) (by decide))) (by decide)
    · subst z; exact absurd (ap3 (g0 (by decide) (by decide)) (g1 (by decide) (by decide)) (g2 (by decide) (by decide))) (by decide)
    · subst z; exact absurd (ap3 (g0 (by decide) (by decide)) (g1 (by decide) (by decide)) (g2 (by decide) (by decide))) (by decide)
  · intro e
    have e : y.cps.toList = [122, 102, 114, 101, 115, 104] := by rw [e]; exact zfresh_l
    have hn := len e
    simp only [List.length_cons, List.length_nil] at hn
    have g0 := get 0 122 e rfl (by decide) (by decide) (by omega)
    have g1 := get 1 102 e rfl (by decide) (by decide) (by omega)
    have g2 := get 2 114 e rfl (by decide) (by decide) (by omega)
    have g3 := get 3 101 e rfl (by decide) (by decide) (by omega)
    have g4 := get 4 115 e rfl (by decide) (by decide) (by omega)
    have g5 := get 5 104 e rfl (by decide) (by decide) (by omega)
    obtain z | z | z | z | z : P = 0 ∨ P = 1 ∨ P = 2 ∨ P = 3 ∨ P = 4 := by clear g0 g1 g2 g3 g4 g5 h get len; omega
    · subst z; exact absurd (ap3 (g2 (by decide) (by decide)) (g3 (by decide) (by decide)) (g4 (by decide) (by decide))) (by decide)
    · subst z; exact absurd (ap3 (g3 (by decide) (by decide)) (g4 (by decide) (by decide)) (g5 (by decide) (by decide))) (by decide)
    · subst z; exact absurd (ap4 (g0 (by decide) (by decide)) (g1 (by decide) (by decide)) (g4 (by decide) (by decide)) (g5 (by decide) (by decide))) (by decide)
    · subst z; exact absurd (ap3 (g0 (by decide) (by decide)) (g1 (by decide) (by decide)) (g2 (by decide) (by decide))) (by decide)
    · subst z; exact absurd (ap3 (g0 (by decide) (by decide)) (g1 (by decide) (by decide)) (g2 (by decide) (by decide))) (by decide)
inductive spNameBy_I (vs : List V) (H : Hp) (Q : VK) : Prop
  | mk : ∀ (b k : Int), vs = [.int b, .int k] → 0 ≤ b → b < 2147483629 → 0 ≤ k → k ≤ 100 → (∀ x : Str, WordZ x → Q (.str x) H) → spNameBy_I vs H Q
noncomputable def spNameBy : Sp := fun vs H Q _ => spNameBy_I vs H Q
inductive spPool_I (vs : List V) (H : Hp) (Q : VK) : Prop
  | mk : ∀ (a : Addr) (rs : List Int), vs = [.ref a] → H a = some (.lst (rs.map V.int)) → 2 ≤ rs.length → (∀ r ∈ rs, 0 ≤ r ∧ r < 2147483629) → (∀ (p : Addr) (ws : List Str) (H' : Hp), 2 ≤ ws.length → ws.length ≤ 10 → (∀ x ∈ ws, WordZ x) → Same H H' → H' p = some (.lst (ws.map V.str)) → Q (.ref p) H') → spPool_I vs H Q
noncomputable def spPool (K : PySem.W.Frag) : Sp := fun vs H Q _ => spPool_I vs H Q
section
variable {P : Program} {w : World} {K : PySem.W.Frag} {mg : Str → Option Value} {base : Heap} {a : Adr}
theorem ok_nameby {fd : FuncData} (F : Fun K "_law_name_by" "_law_name_by" sl_name_by a.f_l_name_by fd) (T : Txt K mg a) : FnOk P w K mg base CX0 1 a.f_l_name_by fd ["_law_shape", "_law_k"] spNameBy := by
  refine F.ok sc_l_name_by (fun vs H Q E h => ?_) (fun cdv A outer s H vs Q E hr h => ?_)
  · obtain ⟨b, k, rfl, _⟩ := h; rfl
  · obtain ⟨b, kk, rfl, hb0, hb1, hk0, hk1, k⟩ := h
    have h36 := aZ_len
    have pick : ∀ z : Int, ∃ c, atI aZ.cps.toList (z % 36) = some c ∧ c ∈ aZ.cps.toList := fun z => pick_sign (Int.emod_nonneg _ (by decide)) (by rw [h36]; exact Int.emod_lt_of_pos _ (by decide))
    refine ⟨_, (pss_cons (ps_set (i := 2) sc_l_name_by.nd rfl (Or.inl rfl) pe_str)
        (pss_cons (ps_if (pt_cmpR op_eq (pe_op op_mod (pv 0) pe_int) pe_int (nomark _)) (pss_one (ps_ret (pe_op op_mul_str (pe_ix ix_str (pv 2) (pe_op op_mod (pe_op op_add (pe_op op_fdiv (pv 0) pe_int) (pe_op op_fdiv (pv 1) pe_int)) pe_int) (fun _ _ => rfl)) (pe_op op_add pe_int (pe_op op_mod (pv 1) pe_int))))) pss_nil)
        (pss_cons (ps_set (i := 3) sc_l_name_by.nd rfl (Or.inl rfl) (pe_op op_mod (pe_op op_fdiv (pv 0) pe_int) pe_int))
        (pss_cons (ps_set (i := 4) sc_l_name_by.nd rfl (Or.inl rfl) pe_str)
        (pss_cons (ps_for PassesOwn.never rfl (pi_range1 rfl T.b_range (pac (pe_op op_add (pe_op op_add (pv 3) pe_int) (pe_op op_mod (pe_op op_fdiv (pv 0) pe_int) (pe_op op_sub pe_int (pv 3)))) pa_nil)) (pg_name (i := 5) sc_l_name_by.nd rfl (Or.inl rfl)) (pss_one (ps_if (pt_cmpR op_eq (pv 5) (pv 3) (nomark _)) (pss_one (ps_set (i := 4) sc_l_name_by.nd rfl (Or.inl rfl) (pe_op op_add_str (pv 4) (pe_ix ix_str (pv 2) (pe_op op_mod (pe_op op_add (pe_op op_fdiv (pv 0) pe_int) (pe_op op_fdiv (pv 1) pe_int)) pe_int) (fun _ _ => rfl))))) (pss_one (ps_if (pt_cmpR op_eq (pv 5) (pe_op op_add (pv 3) pe_int) (nomark _)) (pss_one (ps_set (i := 4) sc_l_name_by.nd rfl (Or.inl rfl) (pe_op op_add_str (pv 4) (pe_ix ix_str (pv 2) (pe_op op_mod (pe_op op_add (pe_op op_fdiv (pv 0) pe_int) (pv 1)) pe_int) (fun _ _ => rfl))))) (pss_one (ps_set (i := 4) sc_l_name_by.nd rfl (Or.inl rfl) (pe_op op_add_str (pv 4) (pe_ix ix_str (pv 2) (pe_op op_mod (pe_op op_add (pe_op op_fdiv (pv 0) pe_int) (pe_op op_mul (pv 5) (pe_op op_add pe_int (pe_op op_mod (pv 0) pe_int)))) pe_int) (fun _ _ => rfl))))))))))
        (pss_one (ps_ret (pv 4)))))))), ?_⟩
    refine ⟨_, rfl, _, _, rfl, rfl, (by show (0 : Int) < 4; decide), rfl, _, rfl, ?_⟩
    refine ite2 (fun _ => ?_) (fun _ => ?_)
    · obtain ⟨c, hc, hcm⟩ := pick (b / 4 + kk / 20)
      have m0 : 0 ≤ kk % 20 := Int.emod_nonneg _ (by decide)
      have m1 : kk % 20 < 20 := Int.emod_lt_of_pos _ (by decide)
      refine ⟨_, rfl, _, rfl, _, _, rfl, rfl, ⟨by decide, by decide⟩, _, rfl, _, _, rfl, rfl, ⟨by decide, by decide⟩, _, _, rfl, rfl, _, _, rfl, rfl, (by show (0 : Int) < 36; decide), aZ, _, c, rfl, rfl, aZ_small, hc, ?_⟩
      refine ⟨_, rfl, _, _, rfl, rfl, (by show (0 : Int) < 20; decide), _, _, rfl, rfl, _, _, rfl, rfl, (by rw [one_len]; decide), by omega, by omega, ?_⟩
      have hl := mul_len (⟨#[c]⟩ : Str) (1 + kk % 20)
      rw [one_len, Nat.mul_one] at hl
      have same : ∀ d ∈ (Txt.mul (⟨#[c]⟩ : Str) (1 + kk % 20)).cps.toList, d = c := fun d hd => by
        have := mul_mem hd
        simpa using this
      refine k _ ⟨⟨by omega, by omega, fun d hd => by rw [same d hd]; exact hcm⟩, one_sign same⟩
    · have p0 : 0 ≤ b / 4 % 18 := Int.emod_nonneg _ (by decide)
      have p1 : b / 4 % 18 < 18 := Int.emod_lt_of_pos _ (by decide)
      have m0 : 0 ≤ b / 72 % (19 - b / 4 % 18) := Int.emod_nonneg _ (by omega)
      have m1 : b / 72 % (19 - b / 4 % 18) < 19 - b / 4 % 18 := Int.emod_lt_of_pos _ (by omega)
      have q7 : 0 ≤ b % 7 := Int.emod_nonneg _ (by decide)
      have q8 : b % 7 < 7 := Int.emod_lt_of_pos _ (by decide)
      refine ⟨_, rfl, _, _, rfl, rfl, ⟨by decide, by decide⟩, _, _, rfl, rfl, (by show (0 : Int) < 18; decide), ?_⟩
      refine ⟨_, rfl, _, _, rfl, rfl, _, rfl, _, _, rfl, rfl, ⟨by decide, by decide⟩, _, rfl, _, _, rfl, rfl, _, _, rfl, rfl, (by show (0 : Int) < 19 - b / 4 % 18; omega), _, _, rfl, rfl, _, rfl, by omega, by omega, for_range (n := (b / 4 % 18 + 2 + b / 72 % (19 - b / 4 % 18)).toNat) (fun i σ H2 => ∃ (y : Str) (o : Option V), σ = [some (.int b), some (.int kk), some (.str aZ), some (.int (b / 4 % 18)), some (.str y), o] ∧ y.length = i ∧ (∀ c ∈ y.cps.toList, c ∈ aZ.cps.toList) ∧ H2 = H ∧ Sgns y i (b / 4 % 18) (b / 3) (1 + b % 7))
        ⟨"", none, rfl, empty_len, (fun c hc => by rw [show ("" : Str).cps.toList = [] by decide +kernel] at hc; cases hc), rfl, fun j hj => absurd hj (Nat.not_lt_zero j)⟩ ?_ ?_⟩
      · rintro i σ H2 hi ⟨y, o, rfl, hy, hyc, rfl, hsg⟩
        have fit : ∀ c : Nat, y.length + (⟨#[c]⟩ : Str).length ≤ sizeLine := fun c => Nat.le_of_lt (small1000 (by rw [one_len]; omega))
        have step : ∀ c : Nat, c ∈ aZ.cps.toList → ((i : Int) ≠ b / 4 % 18 → (i : Int) ≠ b / 4 % 18 + 1 → atI aZ.cps.toList ((b / 3 + (0 + (i : Int)) * (1 + b % 7)) % 36) = some c) → ∃ (y1 : Str) (o : Option V), ([some (.int b), some (.int kk), some (.str aZ), some (.int (b / 4 % 18)), some (.str (y ++ ⟨#[c]⟩)), some (.int (0 + (i : Int)))] : St) = [some (.int b), some (.int kk), some (.str aZ), some (.int (b / 4 % 18)), some (.str y1), o] ∧ y1.length = i + 1 ∧ (∀ c ∈ y1.cps.toList, c ∈ aZ.cps.toList) ∧ H2 = H2 ∧ Sgns y1 (i + 1) (b / 4 % 18) (b / 3) (1 + b % 7) := fun c hc hcs =>
          ⟨_, _, rfl, by rw [cat_len, one_len, hy], fun d hd => by
            rw [cat_list] at hd
            rcases List.mem_append.mp hd with z | z
            · exact hyc d z
            · have e : d = c := by simpa using z
              rw [e]; exact hc, rfl, hsg.snoc hy hcs⟩
        refine ⟨_, rfl, _, rfl, rfl, _, rfl, ?_⟩
        refine ite2 (fun hp => ?_) (fun _ => ?_)
        · have hp : 0 + (i : Int) = b / 4 % 18 := V.int.inj (of_decide_eq_true hp)
          obtain ⟨c, hc, hcm⟩ := pick (b / 1368 + kk / 36)
          exact ⟨_, rfl, _, rfl, _, rfl, _, _, rfl, rfl, ⟨by decide, by decide⟩, _, rfl, _, _, rfl, rfl, ⟨by decide, by decide⟩, _, _, rfl, rfl, _, _, rfl, rfl, (by show (0 : Int) < 36; decide), aZ, _, c, rfl, rfl, aZ_small, hc, _, _, rfl, rfl, fit c, step c hcm fun n1 _ => absurd (by omega) n1⟩
        · refine ⟨_, rfl, _, rfl, _, _, rfl, rfl, rfl, _, rfl, ?_⟩
          refine ite2 (fun hp => ?_) (fun _ => ?_)
          · have hp : 0 + (i : Int) = b / 4 % 18 + 1 := V.int.inj (of_decide_eq_true hp)
            obtain ⟨c, hc, hcm⟩ := pick (b / 49248 + kk)
            exact ⟨_, rfl, _, rfl, _, rfl, _, _, rfl, rfl, ⟨by decide, by decide⟩, _, rfl, _, _, rfl, rfl, _, _, rfl, rfl, (by show (0 : Int) < 36; decide), aZ, _, c, rfl, rfl, aZ_small, hc, _, _, rfl, rfl, fit c, step c hcm fun _ n2 => absurd (by omega) n2⟩
          · obtain ⟨c, hc, hcm⟩ := pick (b / 3 + (0 + (i : Int)) * (1 + b % 7))
            exact ⟨_, rfl, _, rfl, _, rfl, _, _, rfl, rfl, ⟨by decide, by decide⟩, _, rfl, _, rfl, _, _, rfl, rfl, (by show (0 : Int) < 7; decide), _, _, rfl, rfl, _, _, rfl, rfl, .inl ⟨by omega, by omega⟩, _, _, rfl, rfl, _, _, rfl, rfl, (by show (0 : Int) < 36; decide), aZ, _, c, rfl, rfl, aZ_small, hc, _, _, rfl, rfl, fit c, step c hcm fun _ _ => hc⟩
      · rintro σ H2 ⟨y, o, rfl, hy, hyc, rfl, hsg⟩
        exact ⟨_, rfl, k y ⟨⟨by omega, by omega, hyc⟩, hsg.notZ hy (by omega) (by omega)⟩⟩
theorem ok_pool {fd : FuncData} (F : Fun K "_law_pool" "_law_pool" sl_pool a.f_l_pool fd) (T : Txt K mg a) (FF : Funs K a) : FnOk P w K mg base CX0 2 a.f_l_pool fd ["_law_draws_here"] (spPool K) := by
  obtain ⟨fdN, F_l_name_by, b_l_name_by⟩ := FF.F_l_name_by
  have G_l_name_by : FnOk P w K mg base CX0 1 a.f_l_name_by fdN ["_law_shape", "_law_k"] spNameBy := ok_nameby F_l_name_by T
  refine F.ok sc_l_pool (fun vs H Q E h => ?_) (fun cdv A outer s H vs Q E hr h => ?_)
  · obtain ⟨x, rs, rfl, _⟩ := h; rfl
  · obtain ⟨x, rs, rfl, hx, hl, hb, k⟩ := h
    have hr_l_name_by : Room 1 _ := hr
    refine ⟨_, (pss_cons (ps_set (i := 1) sc_l_pool.nd rfl (Or.inl rfl) (pe_op op_add pe_int (pe_op op_mod (pe_ix ix_list (pv 0) pe_int (fun _ _ => rfl)) pe_int)))
        (pss_one (ps_ret (pe_comp (sc := defScope sl_pool) (N := n_l_pool) (fr := [(0, "_law_draws_here")]) ⟨rfl, rfl, by decide +kernel, by decide +kernel, by decide +kernel, by decide +kernel, by decide +kernel⟩ rfl rfl rfl (pi_range1 rfl T.b_range (pac (pv 1) pa_nil)) (fun _ _ _ _ => pts_nil) (fun _ _ _ _ => (pe_call G_l_name_by hr_l_name_by rfl T.m_l_name_by F_l_name_by.kp b_l_name_by .nil pass0 (pac (pe_ix (ix_listK K) (pv 1) pe_int (fun _ _ => rfl)) (pac (pv 0) pa_nil)))))))), ?_⟩
    obtain ⟨z0, e0, b00, b01⟩ := row_pick hb 0 (by decide) (by omega)
    obtain ⟨z1, e1, b10, b11⟩ := row_pick hb 1 (by decide) (by omega)
    have m0 : 0 ≤ z1 % 9 := Int.emod_nonneg _ (by decide)
    have m1 : z1 % 9 < 9 := Int.emod_lt_of_pos _ (by decide)
    refine ⟨_, rfl, x, _, _, _, rfl, rfl, SqL.of hx, e1, _, _, rfl, rfl, (by show (0 : Int) < 9; decide), _, _, rfl, rfl, ?_⟩
    refine ⟨_, rfl, _, rfl, by omega, by omega, comp_rangeG (n := (2 + z1 % 9).toNat) (fun i ys => ∃ ws : List Str, ys = ws.map V.str ∧ ws.length = i ∧ ∀ x ∈ ws, WordZ x) (Nat.le_of_lt (small1000 (by omega))) ⟨[], rfl, rfl, fun _ z => nomatch z⟩ (fun i ys ⟨ws, e, el, _⟩ => by rw [e, List.length_map, el]) ?_ ?_⟩
    · rintro i ys H3 Q' hi ⟨ws, rfl, el, hw⟩ s3 q
      refine ⟨_, rfl, x, _, _, _, rfl, rfl, SqL.of (s3 _ _ hx), e0, _, rfl, z0, 0 + (i : Int), rfl, b00, b01, by omega, by omega, fun y hy => q _ H3 ⟨ws ++ [y], by rw [List.map_append]; rfl, by rw [List.length_append, List.length_singleton, el], fun z hz => ?_⟩ (Same.refl H3)⟩
      rcases List.mem_append.mp hz with z' | z'
      · exact hw z z'
      · rw [List.mem_singleton.mp z']; exact hy
    · rintro D ys H2 hD ⟨ws, rfl, el, hw⟩ s2 hD2
      exact k D ws H2 (by omega) (by omega) hw s2 hD2
end
theorem RDs.snoc {K : PySem.W.Frag} {H : Hp} {x : V} {d : PyData} (r : RD K H x d) : ∀ {xs : List V} {ds : List PyData}, RDs K H xs ds → RDs K H (xs ++ [x]) (ds ++ [d])
  | _, _, .nil => .cons r .nil
  | _, _, .cons q qs => .cons q (RDs.snoc r qs)
theorem rds_map {K : PySem.W.Frag} {H : Hp} {α : Type} {f : α → V} {g : α → PyData} : ∀ {xs : List α}, (∀ x ∈ xs, RD K H (f x) (g x)) → RDs K H (xs.map f) (xs.map g)
  | [], _ => .nil
  | x :: xs, h => .cons (h x List.mem_cons_self) (rds_map fun z hz => h z (List.mem_cons_of_mem _ hz))
/- the heap without one thing -/
noncomputable def delA (l : Addr) (H : Hp) : Hp := fun c => if c = l then none else H c
theorem delA_ne {l c : Addr} {H : Hp} (h : c ≠ l) : delA l H c = H c := if_neg h
theorem delA_same {l : Addr} {H H' : Hp} (s : Same H H') : Same (delA l H) (delA l H') := fun c o e => by
  by_cases z : c = l
  · unfold delA at e; rw [if_pos z] at e; cases e
  · rw [delA_ne z] at e ⊢; exact s c o e
theorem delA_in (l : Addr) (H : Hp) : Same (delA l H) H := fun c o e => by
  by_cases z : c = l
  · unfold delA at e; rw [if_pos z] at e; cases e
  · rw [delA_ne z] at e; exact e
theorem delA_upd (l : Addr) (H : Hp) (o : HO) : delA l (upd H l o) = delA l H := by
  funext c
  by_cases z : c = l
  · unfold delA; rw [if_pos z, if_pos z]
  · rw [delA_ne z, delA_ne z, upd_ne z]
noncomputable def Ly (m : Nat) (d : PyData) : Prop := d.canLay0 = true ∧ d.depth ≤ m
theorem ly_str {x : Str} (h : Asc x) : Ly 0 (.str x) := by
  have := lay_strs (xs := [x]) fun y hy => by rw [List.mem_singleton.mp hy]; exact h
  refine ⟨?_, Nat.le_refl _⟩
  have e : (PyData.canLay0 (.str x) && true) = true := this.1
  rwa [Bool.and_true] at e
theorem ly_all {m : Nat} : ∀ {ds : List PyData}, (∀ d ∈ ds, Ly m d) → PyData.canLayAll0 ds = true ∧ PyData.depthAll ds ≤ m
  | [], _ => ⟨rfl, Nat.zero_le _⟩
  | d :: ds, h => by
    obtain ⟨a1, a2⟩ := ly_all (ds := ds) fun z hz => h z (List.mem_cons_of_mem _ hz)
    obtain ⟨b1, b2⟩ := h d List.mem_cons_self
    refine ⟨?_, ?_⟩
    · show (PyData.canLay0 d && PyData.canLayAll0 ds) = true
      rw [b1, a1]; rfl
    · show max (PyData.depth d) (PyData.depthAll ds) ≤ m
      omega
theorem ly_list {m : Nat} {ds : List PyData} (h : ∀ d ∈ ds, Ly m d) : Ly (m + 1) (.list ds) := by
  obtain ⟨a1, a2⟩ := ly_all h
  refine ⟨a1, ?_⟩
  show PyData.depthAll ds + 1 ≤ m + 1
  omega
theorem ly_strs {xs : List Str} (h : ∀ x ∈ xs, Asc x) : Ly 1 (.list (xs.map PyData.str)) := ly_list fun d hd => by
  obtain ⟨x, hx, rfl⟩ := List.mem_map.mp hd
  exact ly_str (h x hx)
theorem Ly.shaped {m : Nat} {d : PyData} (h : Ly m d) (k : m ≤ 64) : SeqAt.shaped d = true := by
  unfold SeqAt.shaped
  rw [h.1, decide_eq_true (Nat.le_trans h.2 k)]
  rfl
noncomputable abbrev rowsZ (ts : List Str) : Rows := rowsE ts ++ [(("zfresh" : Str), ("zother" : Str))]
theorem rowsZ_names (ts : List Str) : (rowsZ ts).map (·.1) = ts ++ [("zfresh" : Str)] := by rw [List.map_append, rowsE_names]; rfl
theorem rowsZ_rch {ts : List Str} (h1 : ¬ ("zother" : Str) ∈ ts) (h2 : ¬ ("zfresh" : Str) ∈ ts) {m : Str} (h : Rch (rowsZ ts) "zfresh" m) : m = "zfresh" ∨ m = "zother" := by
  have zf : ("zfresh" : Str) ≠ "zother" := by decide +kernel
  have ups : up (rowsZ ts) "zfresh" = some ("zother" : Str) := by
    obtain ⟨an, e⟩ := up_some (rows := rowsZ ts) (n := "zfresh") (by rw [rowsZ_names]; exact List.mem_append_right _ (List.mem_singleton.mpr rfl))
    have := up_mem e
    rcases List.mem_append.mp this with z | z
    · exact absurd (by have := List.mem_map_of_mem (f := fun r : Str × Str => r.1) z; rw [rowsE_names] at this; exact this) h2
    · rw [e]; rw [List.mem_singleton] at z; cases z; rfl
  have upz : up (rowsZ ts) "zother" = none := up_none.mpr (by
    rw [rowsZ_names]
    intro z
    rcases List.mem_append.mp z with z | z
    · exact h1 z
    · exact zf (List.mem_singleton.mp z).symm)
  have rp : ∀ t k : Str, t ≠ "" → k ∈ reps (rowsZ ts) t → t = "zother" ∧ k = "zfresh" := fun t k ht hk => by
    rw [reps_snoc, rowsE_reps ht, List.nil_append] at hk
    by_cases e : ("zother" : Str) = t
    · rw [if_pos e] at hk; exact ⟨e.symm, List.mem_singleton.mp hk⟩
    · rw [if_neg e] at hk; cases hk
  induction h with
  | refl => exact .inl rfl
  | step h k ih =>
    unfold nbr at k
    rcases ih with rfl | rfl
    · rcases List.mem_append.mp k with k | k
      · exact absurd (rp _ _ (by decide +kernel) k).1 zf
      · obtain ⟨e, _⟩ := mem_upL.mp k
        rw [ups] at e; cases e; exact .inr rfl
    · rcases List.mem_append.mp k with k | k
      · exact .inl (rp _ _ (by decide +kernel) k).2
      · obtain ⟨e, _⟩ := mem_upL.mp k
        rw [upz] at e; cases e
theorem rowsZ_thr {ts : List Str} (nd : ts.Nodup) (h1 : ¬ ("zother" : Str) ∈ ts) (h2 : ¬ ("zfresh" : Str) ∈ ts) : thrOf (rowsZ ts) "zfresh" = [("zfresh" : Str)] := by
  have zf : ("zfresh" : Str) ≠ "zother" := by decide +kernel
  have := thr_of (rows := rowsZ ts) (n := "zfresh") (l := [("zfresh" : Str)]) (by rw [rowsZ_names]; exact snoc_nodup nd h2) (by simp) fun m => by
    rw [rowsZ_names]
    constructor
    · intro z; rw [List.mem_singleton.mp z]; exact ⟨List.mem_append_right _ (List.mem_singleton.mpr rfl), .refl⟩
    · rintro ⟨z1, z⟩
      rcases rowsZ_rch h1 h2 z with rfl | rfl
      · exact List.mem_singleton.mpr rfl
      · rcases List.mem_append.mp z1 with z1 | z1
        · exact absurd z1 h1
        · exact absurd (List.mem_singleton.mp z1).symm zf
  rw [← this]; rfl
structure LT (a : Adr) (H : Hp) (D Pp x y dx L R tl l0 l1 : Addr) (F : List Addr) (rs : List Int) (ts us W pool : List Str) : Prop where
  sl : SL a H x y dx L R tl l0 l1 F ts us W pool
  dr : H D = some (.lst (rs.map V.int))
  pl : H Pp = some (.lst (pool.map V.str))
  dF : ¬ D ∈ F
  pF : ¬ Pp ∈ F
  d0 : D ≠ l0
  d1 : D ≠ l1
  p0 : Pp ≠ l0
  p1 : Pp ≠ l1
theorem LT.same {a : Adr} {H H' : Hp} {D Pp x y dx L R tl l0 l1 : Addr} {F : List Addr} {rs : List Int} {ts us W pool : List Str} (h : LT a H D Pp x y dx L R tl l0 l1 F rs ts us W pool) (s : Same H H') : LT a H' D Pp x y dx L R tl l0 l1 F rs ts us W pool :=
  ⟨h.sl.same s, s _ _ h.dr, s _ _ h.pl, h.dF, h.pF, h.d0, h.d1, h.p0, h.p1⟩
theorem LT.step {a : Adr} {H H' : Hp} {D Pp x y dx L R tl l0 l1 : Addr} {F F' : List Addr} {rs : List Int} {ts us ts' us' W pool : List Str} (h : LT a H D Pp x y dx L R tl l0 l1 F rs ts us W pool) (sl : SL a H' x y dx L R tl l0 l1 F' ts' us' W pool)
    (k : ∀ b o, ¬ b ∈ F → b ≠ L → b ≠ l0 → b ≠ l1 → H b = some o → H' b = some o) (sb : ∀ b ∈ F', b ∈ F ∨ H b = none) : LT a H' D Pp x y dx L R tl l0 l1 F' rs ts' us' W pool := by
  have nL : ∀ {b : Addr} {xs : List V}, H b = some (.lst xs) → b ≠ L := fun e => ne_of e h.sl.sb.th.lk fun z => nomatch z
  have nF : ∀ {b : Addr} {o : HO}, H b = some o → ¬ b ∈ F → ¬ b ∈ F' := fun e n z => (sb _ z).elim n fun q => by rw [e] at q; cases q
  exact ⟨sl, k _ _ h.dF (nL h.dr) h.d0 h.d1 h.dr, k _ _ h.pF (nL h.pl) h.p0 h.p1 h.pl, nF h.dr h.dF, nF h.pl h.pF, h.d0, h.d1, h.p0, h.p1⟩
section
variable {P : Program} {w : World} {K : PySem.W.Frag} {mg : Str → Option Value} {base : Heap} {a : Adr}
theorem blk7 (T : Txt K mg a) (FF : Funs K a) {cdv : Value} {A : Around} {outer : List Env} {s : Shared} {H : Hp} {Q : VK} {E0 : XK} (hr : Room 13 (A.deeper (PyProof.Rows.envOfC "law" (defScope slaw) s.heap.objs.size a.f_law cdv))) (k : ∀ H', Q (.bl true) H') :
    ∃ tt, PSs (cxOf CX0 P w K mg base n_law "law" (defScope slaw) a.f_law cdv A outer s H E0).nox ((defBody slaw).drop 7) tt ∧ ∀ (G : Hp) (D Pp x y dx L R tl l0 l1 : Addr) (F : List Addr) (rs : List Int) (ts us W pool : List Str) (oq o6 o7 o8 o9 : Option V), pool.length ≤ 10 → (∀ t ∈ pool, WordZ t) → LT a G D Pp x y dx L R tl l0 l1 F rs ts us W pool →
        tt { nx := fun _ H' => Q .non H', rt := Q } [oq, some (.ref D), some (.ref Pp), some (.ref x), some (.ref y), some (.ref tl), o6, o7, o8, o9] G := by
  obtain ⟨fdT, F_ths, b_Threads_threads⟩ := FF.F_Threads_threads
  obtain ⟨fdA, F_A, b_A0, ⟨dsA, vA, b_A1⟩⟩ := FF.F_Threads_add
  obtain ⟨fdR, F_l_refused, b_l_refused⟩ := FF.F_l_refused
  obtain ⟨fdH, F_thr, b_Threads_thread⟩ := FF.F_Threads_thread
  obtain ⟨fdN, F_nam, b_Threads_names⟩ := FF.F_Threads_names
  have G_Threads_threads := ok_threads (P := P) (w := w) (base := base) F_ths T FF
  have G_Threads_add := ok_add (P := P) (w := w) (base := base) F_A T FF
  have G_l_refused : FnOk P w K mg base CX0 4 a.f_l_refused fdR ["_law_call", "_law_threads", "_law_index", "_law_name"] (spRefd a) := ok_refd F_l_refused T FF
  have G_Threads_thread := ok_thread (P := P) (w := w) (base := base) F_thr T FF
  have G_Threads_names := ok_names (P := P) (w := w) (base := base) F_nam T
  have hr_Threads_threads := hr.mono (j := 6) (by decide)
  have hr_Threads_add : Room 2 _ := hr.mono (by decide)
  have hr_l_refused : Room 4 _ := hr.mono (by decide)
  have hr_Threads_thread := hr.mono (j := 6) (by decide)
  have hr_Threads_names : Room 1 _ := hr.mono (by decide)
  have hu64 := hr.units
  refine ⟨_, (pss_cons (ps_if (pt_cmpR (op_neD hu64) (pe_meth0 (pv 3) T.c_Threads T.M_Threads_threads G_Threads_threads (hr.mono (by decide)) b_Threads_threads .nil pass0) (pe_comp (sc := defScope slaw) (N := n_law) (fr := []) ⟨rfl, rfl, by decide +kernel, by decide +kernel, by decide +kernel, by decide +kernel, by decide +kernel⟩ rfl rfl rfl (pi_list (pe_callB call_sorted rfl T.b_sorted PyProof.Rows.boot_sorted (pac (pe_ix ix_list (pv 5) pe_int (fun _ _ => rfl)) pa_nil))) (fun _ _ _ _ => pts_nil) (fun _ _ _ _ => (pe_lstS (pas_cons (pv 0) pas_nil)))) (nomark _)) (pss_one (ps_ret pe_bl)) pss_nil)
        (pss_cons (ps_expr (pe_meth (pv 3) T.c_Threads T.M_Threads_add G_Threads_add hr_Threads_add b_A0 .nil pass0 (pac pe_str (pac pe_str pa_nil))))
        (pss_cons (ps_for PassesOwn.never rfl (pi_list (pe_lstS (pas_cons pe_int (pas_cons pe_int (pas_cons pe_int (pas_cons pe_int pas_nil)))))) (pg_name (i := 8) sc_law.nd rfl (Or.inl rfl)) (pss_one (ps_if (pt_not (pt_val (pe_call G_l_refused hr_l_refused rfl T.m_l_refused F_l_refused.kp b_l_refused .nil pass0 (pac (pv 8) (pac (pv 3) (pac (pv 4) (pac pe_str pa_nil))))))) (pss_one (ps_ret pe_bl)) pss_nil)))
        (pss_one (ps_ret (pe_and (pe_cmpR (op_eqD hu64) (pe_meth (pv 3) T.c_Threads T.M_Threads_thread G_Threads_thread (hr.mono (by decide)) b_Threads_thread .nil pass0 (pac pe_str pa_nil)) (pe_lstS (pas_cons pe_str pas_nil)) (nomark _)) (pe_one (pe_cmpR (op_eqD hu64) (pe_meth0 (pv 3) T.c_Threads T.M_Threads_names G_Threads_names hr_Threads_names b_Threads_names .nil pass0) (pe_callB call_sorted rfl T.b_sorted PyProof.Rows.boot_sorted (pac (pe_op op_cat (pe_ix ix_list (pv 5) pe_int (fun _ _ => rfl)) (pe_lstS (pas_cons pe_str pas_nil))) pa_nil)) (nomark _))))))))), ?_⟩
  intro G D Pp x y dx L R tl l0 l1 F rs ts us W pool oq o6 o7 o8 o9 hpl hpz lt
  have hS := lt.sl
  have asc : ∀ t ∈ ts, Asc t := fun t ht => (hpz t (hS.st t ht)).1.asc
  have hne : ∀ t ∈ ts, t ≠ "" := fun t ht => word_ne (hpz t (hS.st t ht)).1
  have hzo : ¬ ("zother" : Str) ∈ ts := fun z => (hpz _ (hS.st _ z)).2.1 rfl
  have hzf : ¬ ("zfresh" : Str) ∈ ts := fun z => (hpz _ (hS.st _ z)).2.2 rfl
  have htl : ts.length ≤ 10 := by have := nodup_le hS.ndt hS.st; omega
  have ths : ∀ {G' : Hp}, Same G G' → THs a G' x (rowsE ts) 10 := fun s => ⟨dx, L, R, [], hS.sb.th.same s, (by unfold rowsE; rw [List.length_map]; omega), by decide⟩
  have noe : NoE (rowsE ts) := fun t ht => by rw [rowsE_names] at ht; exact hne t ht
  refine ⟨_, rfl, x, dx, _, rfl, hS.sb.th.obj, rfl, x, rowsE ts, 10, rfl, ths (Same.refl _), noe, fun l H1 ls hl s1 hls els thr => ?_⟩
  refine ⟨_, rfl, tl, _, _, _, rfl, rfl, SqL.of (s1 _ _ hS.tl_), rfl, l0, ts, rfl, SqL.of (s1 _ _ hS.h0), by omega, fun m hm => ?_⟩
  have s2 : Same H1 (upd H1 m (.lst ((sortS ts).map V.str))) := Same.upd_new hm
  have e2 : (upd H1 m (.lst ((sortS ts).map V.str))) m = some (.lst ((sortS ts).map V.str)) := upd_same
  generalize upd H1 m (.lst ((sortS ts).map V.str)) = H2 at s2 e2
  have hsl : (sortS ts).length = ts.length := sortS_len _
  refine ⟨m, rfl, ⟨_, SqL.of e2⟩, comp_listH (K := K) (a := m) (xs := (sortS ts).map V.str) (fun Dd i ys H7 => ys.length = i ∧ RDs K (delA Dd H7) ys (((sortS ts).take i).map fun t => PyData.list [.str t])) (by rw [List.length_map]; exact Nat.le_of_lt (small1000 (by omega))) (SqL.of e2) (fun Dd _ => ⟨rfl, by rw [List.take_zero]; exact .nil⟩) (fun _ _ _ _ p => p.1) ?_ ?_⟩
  · intro Dd i v ys H3 Q' hv hDd p hD3 s3 q
    obtain ⟨t, ht, rfl⟩ : ∃ t, (sortS ts)[i]? = some t ∧ V.str t = v := by
      rw [List.getElem?_map] at hv
      exact Option.map_eq_some_iff.mp hv
    refine ⟨_, rfl, (by show 1 ≤ sizeLine; decide), fun c hc => ?_⟩
    have s4 : Same H3 (upd H3 c (.lst [.str t])) := Same.upd_new hc
    have e4 : (upd H3 c (.lst [.str t])) c = some (.lst [.str t]) := upd_same
    have cD : c ≠ Dd := (ne_of_none hD3 hc).symm
    refine q _ _ s4 ⟨by rw [List.length_append, List.length_singleton, p.1], ?_⟩
    rw [delA_upd, List.take_add_one, ht, List.map_append]
    exact RDs.snoc (d := PyData.list [.str t]) (.lst (SqL.of (by rw [delA_ne cD]; exact e4)) (.cons (.str t) .nil)) (RDs.mono (delA_same s4) p.2)
  · intro Dd ys H3 hDd p s3 hD3
    have s13 := s2.trans s3
    have e13 := s1.trans s13
    have rdT : RD K H3 (.ref l) (.list ((sortS ts).map fun t => PyData.list [.str t])) := by
      have all := rowsE_all hS.ndt hne (sortS ts) ((sortS_perm ts).nodup_iff.mpr hS.ndt) (fun t ht => sortS_mem.mp ht)
      rw [rowsE_names] at els
      have e : ((sortS ts).map fun t => PyData.list [PyData.str t]) = ls.map fun p => PyData.list (p.2.map PyData.str) := by
        have : (ls.map (·.2)).map (fun xs => PyData.list (xs.map PyData.str)) = ((sortS ts).map fun t => [t]).map (fun xs => PyData.list (xs.map PyData.str)) := by rw [els, all]
        rw [List.map_map, List.map_map] at this
        exact this.symm
      rw [e]
      exact RD.mono s13 (.lst (SqL.of thr.1) (rds_map fun p hp => rd_strs (SqL.of (thr.2 p hp))))
    have rdC : RD K H3 (.ref Dd) (.list ((sortS ts).map fun t => PyData.list [.str t])) := by
      have := p.2
      rw [List.length_map, List.take_length] at this
      exact .lst (SqL.of hD3) (RDs.mono (delA_in Dd H3) this)
    have sh : SeqAt.shaped (.list ((sortS ts).map fun t => PyData.list [PyData.str t])) = true := (ly_list (m := 1) fun d hd => by
      obtain ⟨t, ht, rfl⟩ := List.mem_map.mp hd
      exact ly_strs (xs := [t]) fun x hx => by rw [List.mem_singleton.mp hx]; exact asc t (sortS_mem.mp ht)).shaped (by decide)
    refine ⟨_, _, rdT, rdC, sh, sh, _, rfl, ?_⟩
    rw [SeqAt.eqv_refl _ (SeqAt.canLay_of_shaped sh)]
    refine iteF ?_
    have l3 := lt.same e13
    refine ⟨_, rfl, x, dx, _, rfl, l3.sl.sb.th.obj, rfl, x, rowsE ts, 10, "zfresh", "zother", rfl, ths e13, by decide, rowsE_no hzf, fun H4 th4 kp4 => ?_⟩
    have tl4 := kp4 _ _ l3.sl.tl_ fun _ z => nomatch z
    have h04 := kp4 _ _ l3.sl.h0 fun _ z => nomatch z
    refine ⟨(by show 4 ≤ sizeLine; decide), fun u hu => ?_⟩
    have s5 : Same H4 (upd H4 u (.lst ([2, 3, 1, 2].map V.int))) := Same.upd_new hu
    have e5 : (upd H4 u (.lst ([2, 3, 1, 2].map V.int))) u = some (.lst ([2, 3, 1, 2].map V.int)) := upd_same
    have hzn : NotN ((rowsZ ts).map (·.1)) (.str "zother") := .inr (.inr ⟨_, rfl, by
      rw [rowsZ_names]
      intro z
      rcases List.mem_append.mp z with z | z
      · exact hzo z
      · exact absurd (List.mem_singleton.mp z) (by decide +kernel)⟩)
    have ths4 : ∀ {G' : Hp}, Same H4 G' → THs a G' x (rowsZ ts) 11 := fun s => let ⟨dx', L', R', kr', t', e1', e2'⟩ := th4; ⟨dx', L', R', kr', t'.same s, e1', e2'⟩
    refine ⟨u, rfl, ⟨_, SqL.of e5⟩, for_list (K := K) (a := u) (xs := [2, 3, 1, 2].map V.int) (fun i σ G5 => Ex1 fun (o8 : Option V) => (σ = [oq, some (.ref D), some (.ref Pp), some (.ref x), some (.ref y), some (.ref tl), o6, o7, o8, o9]) ∧ (Same (upd H4 u (.lst ([2, 3, 1, 2].map V.int))) G5)) ⟨o8, rfl, Same.refl _⟩ ?_ ?_ ?_⟩
    · rintro i σ G5 _ ⟨o8, rfl, sg⟩
      exact SqL.of (sg _ _ e5)
    · rintro i v σ G5 hv ⟨o8, rfl, sg⟩
      obtain ⟨c, hc, rfl⟩ : ∃ c : Int, (c = 1 ∨ c = 2 ∨ c = 3) ∧ V.int c = v := by
        rw [List.getElem?_map] at hv
        obtain ⟨c, hc, e⟩ := Option.map_eq_some_iff.mp hv
        have := List.mem_of_getElem? hc
        simp only [List.mem_cons, List.not_mem_nil, or_false] at this
        exact ⟨c, this.elim (fun h => .inr (.inl h)) fun h => h.elim (fun h => .inr (.inr h)) fun h => h.elim .inl fun h => .inr (.inl h), e⟩
      obtain ⟨dx', L', R', kr', t', _⟩ := ths4 (s5.trans sg)
      exact ⟨_, rfl, _, rfl, _, rfl, x, y, c, .str "zother", rfl, .inl ⟨dx', L', R', rowsZ ts, kr', t', .inr ⟨hc, hzn⟩⟩, fun G6 s6 => ⟨_, rfl, iteF ⟨_, rfl, sg.trans s6⟩⟩⟩
    · rintro σ G5 ⟨o8, rfl, sg⟩
      have s45 := s5.trans sg
      obtain ⟨dx', L', R', kr', t', hl1, hl2⟩ := ths4 s45
      have noz : NoE (rowsZ ts) := fun t ht => by
        rw [rowsZ_names] at ht
        rcases List.mem_append.mp ht with z | z
        · exact hne t z
        · rw [List.mem_singleton.mp z]; decide +kernel
      refine ⟨_, rfl, x, dx', _, rfl, t'.obj, rfl, x, rowsZ ts, 11, "zfresh", rfl, ⟨dx', L', R', kr', t', hl1, hl2⟩, noz, (by rw [rowsZ_names]; exact List.mem_append_right _ (List.mem_singleton.mpr rfl)), fun l6 G6 hl6 s6 el6 => ?_⟩
      rw [rowsZ_thr hS.ndt hzo hzf] at el6
      refine ⟨(by show 1 ≤ sizeLine; decide), fun m7 hm7 => ?_⟩
      have s7 : Same G6 (upd G6 m7 (.lst ([("zfresh" : Str)].map V.str))) := Same.upd_new hm7
      have e7 : (upd G6 m7 (.lst ([("zfresh" : Str)].map V.str))) m7 = some (.lst ([("zfresh" : Str)].map V.str)) := upd_same
      have zasc : Asc "zfresh" := by intro c hc; revert c; decide +kernel
      have sh1 : SeqAt.shaped (.list ([("zfresh" : Str)].map PyData.str)) = true := shaped_strs fun x hx => by rw [List.mem_singleton.mp hx]; exact zasc
      refine ⟨_, _, rd_strs (SqL.of (s7 _ _ el6)), rd_strs (SqL.of e7), sh1, sh1, ?_⟩
      rw [SeqAt.eqv_refl _ (SeqAt.canLay_of_shaped sh1)]
      refine ⟨_, rfl, iteT ?_⟩
      have s47 := s45.trans (s6.trans s7)
      obtain ⟨dx'', L'', R'', kr'', t'', hl1', hl2'⟩ := ths4 s47
      refine ⟨_, rfl, x, dx'', _, rfl, t''.obj, rfl, x, rowsZ ts, 11, rfl, ⟨dx'', L'', R'', kr'', t'', hl1', hl2'⟩, fun l8 G8 hl8 s8 el8 => ?_⟩
      rw [rowsZ_names] at el8
      have s48 := s47.trans s8
      refine ⟨_, rfl, tl, _, _, _, rfl, rfl, SqL.of (s48 _ _ tl4), rfl, (by show 1 ≤ sizeLine; decide), fun m9 hm9 => ?_⟩
      have s9 : Same G8 (upd G8 m9 (.lst [V.str "zfresh"])) := Same.upd_new hm9
      have e9 : (upd G8 m9 (.lst [V.str "zfresh"])) m9 = some (.lst [V.str "zfresh"]) := upd_same
      generalize upd G8 m9 (.lst [V.str "zfresh"]) = G9 at s9 e9
      refine ⟨l0, m9, _, _, rfl, rfl, s9 _ _ (s48 _ _ h04), e9, (by rw [List.length_map]; show ts.length + 1 ≤ sizeLine; exact Nat.le_of_lt (small1000 (by omega))), fun c hc => ?_⟩
      have s10 : Same G9 (upd G9 c (.lst ((ts ++ [("zfresh" : Str)]).map V.str))) := Same.upd_new hc
      have e10 : (upd G9 c (.lst (ts.map V.str ++ [V.str "zfresh"]))) c = some (.lst ((ts ++ [("zfresh" : Str)]).map V.str)) := by rw [upd_same, List.map_append]; rfl
      refine ⟨c, ts ++ [("zfresh" : Str)], rfl, SqL.of e10, (by rw [List.length_append, List.length_singleton]; omega), fun d hd => ?_⟩
      have s11 : Same (upd G9 c (.lst (ts.map V.str ++ [V.str "zfresh"]))) (upd (upd G9 c (.lst (ts.map V.str ++ [V.str "zfresh"]))) d (.lst ((sortS (ts ++ [("zfresh" : Str)])).map V.str))) := Same.upd_new hd
      have sA : Same G9 (upd G9 c (.lst (ts.map V.str ++ [V.str "zfresh"]))) := Same.upd_new hc
      have sh2 : SeqAt.shaped (.list ((sortS (ts ++ [("zfresh" : Str)])).map PyData.str)) = true := shaped_strs fun x hx => by
        rcases List.mem_append.mp (sortS_mem.mp hx) with z | z
        · exact asc x z
        · rw [List.mem_singleton.mp z]; exact zasc
      refine ⟨_, _, rd_strs (SqL.of (s11 _ _ (sA _ _ (s9 _ _ el8)))), rd_strs (SqL.of upd_same), sh2, sh2, ?_⟩
      rw [SeqAt.eqv_refl _ (SeqAt.canLay_of_shaped sh2)]
      exact k _
end
theorem mod3 (z : Int) : z % 3 = 0 ∨ z % 3 = 1 ∨ z % 3 = 2 := by omega
theorem odd_any (z : Int) : ∃ y, atI [V.non, V.int 0, V.int 7] (z % 3) = some y ∧ ∀ ts, NotN ts y := by
  rcases mod3 z with h | h | h
  · rw [h]; exact ⟨_, rfl, fun _ => .inl rfl⟩
  · rw [h]; exact ⟨_, rfl, fun _ => .inr (.inl ⟨0, rfl⟩)⟩
  · rw [h]; exact ⟨_, rfl, fun _ => .inr (.inl ⟨7, rfl⟩)⟩
theorem other_of {c : Int} (h0 : 0 ≤ c) (h1 : c < 7) : ∃ d : Int, atI [V.int 4, V.int 5, V.int 6, V.int 4, V.int 0, V.int 1, V.int 1] c = some (.int d) ∧ 0 ≤ d ∧ d ≤ 6 := by
  obtain ⟨n, rfl⟩ := Int.eq_ofNat_of_zero_le h0
  have h1 : n < 7 := Int.ofNat_lt.mp h1
  match n, h1 with
  | 0, _ => exact ⟨4, rfl, by decide, by decide⟩
  | 1, _ => exact ⟨5, rfl, by decide, by decide⟩
  | 2, _ => exact ⟨6, rfl, by decide, by decide⟩
  | 3, _ => exact ⟨4, rfl, by decide, by decide⟩
  | 4, _ => exact ⟨0, rfl, by decide, by decide⟩
  | 5, _ => exact ⟨1, rfl, by decide, by decide⟩
  | 6, _ => exact ⟨1, rfl, by decide, by decide⟩
section
variable {P : Program} {w : World} {K : PySem.W.Frag} {mg : Str → Option Value} {base : Heap} {a : Adr}
theorem blk6 (T : Txt K mg a) (FF : Funs K a) {cdv : Value} {A : Around} {outer : List Env} {s : Shared} {H : Hp} {Q : VK} {E0 : XK} (hr : Room 13 (A.deeper (PyProof.Rows.envOfC "law" (defScope slaw) s.heap.objs.size a.f_law cdv))) (k : ∀ H', Q (.bl true) H') :
    ∃ tt, PSs (cxOf CX0 P w K mg base n_law "law" (defScope slaw) a.f_law cdv A outer s H E0).nox ((defBody slaw).drop 6) tt ∧ ∀ (G : Hp) (D Pp x y dx L R tl l0 l1 : Addr) (F : List Addr) (rs : List Int) (ts us W pool : List Str) (oq o6 o7 o8 o9 : Option V), rs.length = 60 → (∀ r ∈ rs, 0 ≤ r ∧ r < 2147483629) → pool.length ≤ 10 → 2 ≤ pool.length → (∀ t ∈ pool, WordZ t) → (∀ t ∈ pool, t ∈ W) → ("rent" : Str) ∈ W → LT a G D Pp x y dx L R tl l0 l1 F rs ts us W pool →
        tt { nx := fun _ H' => Q .non H', rt := Q } [oq, some (.ref D), some (.ref Pp), some (.ref x), some (.ref y), some (.ref tl), o6, o7, o8, o9] G := by
  obtain ⟨t7, h7, sp7⟩ := blk7 (P := P) (w := w) (base := base) (outer := outer) (H := H) (E0 := E0) T FF hr k
  obtain ⟨fdR, F_l_refused, b_l_refused⟩ := FF.F_l_refused
  have G_l_refused : FnOk P w K mg base CX0 4 a.f_l_refused fdR ["_law_call", "_law_threads", "_law_index", "_law_name"] (spRefd a) := ok_refd F_l_refused T FF
  have hr_l_refused : Room 4 _ := hr.mono (by decide)
  refine ⟨_, (pss_cons (ps_for PassesOwn.never rfl (pi_list (pe_lstS (pas_cons pe_int (pas_cons pe_int (pas_cons pe_int (pas_cons pe_int (pas_cons pe_int pas_nil))))))) (pg_name (i := 8) sc_law.nd rfl (Or.inl rfl)) (pss_one (ps_if (pt_not (pt_val (pe_call G_l_refused hr_l_refused rfl T.m_l_refused F_l_refused.kp b_l_refused .nil pass0 (pac (pv 8) (pac (pv 3) (pac (pv 4) (pac (pe_ix ix_list (pe_lstS (pas_cons pe_non (pas_cons pe_int (pas_cons pe_int pas_nil)))) (pe_op op_mod (pe_op op_fdiv (pe_ix ix_list (pv 1) pe_int (fun _ _ => rfl)) (pe_op op_add pe_int (pv 8))) pe_int) (fun _ _ => rfl)) pa_nil))))))) (pss_one (ps_ret pe_bl)) pss_nil)))
        h7), ?_⟩
  intro G D Pp x y dx L R tl l0 l1 F rs ts us W pool oq o6 o7 o8 o9 hrl hrb hpl hp2 hpz hpW hrW lt
  obtain ⟨z, ez, z0, z1⟩ := row_pick hrb 3 (by decide) (by omega)
  refine ⟨(by show 5 ≤ sizeLine; decide), fun u hu => ?_⟩
  have s1 : Same G (upd G u (.lst ([1, 2, 3, 5, 6].map V.int))) := Same.upd_new hu
  have e1 : (upd G u (.lst ([1, 2, 3, 5, 6].map V.int))) u = some (.lst ([1, 2, 3, 5, 6].map V.int)) := upd_same
  refine ⟨u, rfl, ⟨_, SqL.of e1⟩, for_list (K := K) (a := u) (xs := [1, 2, 3, 5, 6].map V.int) (fun i σ G5 => Ex1 fun (o8 : Option V) => (σ = [oq, some (.ref D), some (.ref Pp), some (.ref x), some (.ref y), some (.ref tl), o6, o7, o8, o9]) ∧ (Same (upd G u (.lst ([1, 2, 3, 5, 6].map V.int))) G5)) ⟨o8, rfl, Same.refl _⟩ ?_ ?_ ?_⟩
  · rintro i σ G5 _ ⟨o8, rfl, sg⟩
    exact SqL.of (sg _ _ e1)
  · rintro i v σ G5 hv ⟨o8, rfl, sg⟩
    obtain ⟨c, hc, rfl⟩ : ∃ c : Int, (c = 1 ∨ c = 2 ∨ c = 3 ∨ c = 5 ∨ c = 6) ∧ V.int c = v := by
      rw [List.getElem?_map] at hv
      obtain ⟨c, hc, e⟩ := Option.map_eq_some_iff.mp hv
      have := List.mem_of_getElem? hc
      simp only [List.mem_cons, List.not_mem_nil, or_false] at this
      exact ⟨c, this, e⟩
    have l5 := lt.same (s1.trans sg)
    obtain ⟨v, hv, hn⟩ := odd_any (z / (1 + c))
    refine ⟨_, rfl, _, rfl, _, rfl, (by show 3 ≤ sizeLine; decide), fun m hm => ?_⟩
    have s6 : Same G5 (upd G5 m (.lst [.non, .int 0, .int 7])) := Same.upd_new hm
    have l6 := l5.same s6
    refine ⟨_, rfl, D, _, _, _, rfl, rfl, SqL.of l6.dr, ez, _, rfl, _, _, rfl, rfl, _, _, rfl, rfl, ⟨by omega, by omega⟩, _, _, rfl, rfl, (by show (0 : Int) < 3; decide), m, _, _, v, rfl, rfl, SqL.of upd_same, hv, x, y, c, v, rfl, l6.sl.sb.refA ?_, fun G7 s7 => ⟨_, rfl, iteF ⟨_, rfl, sg.trans (s6.trans s7)⟩⟩⟩
    by_cases h3 : c ≤ 3
    · exact .inr (.inl ⟨by omega, hn ts⟩)
    · exact .inr (.inr (.inr ⟨by omega, hn us⟩))
  · rintro σ G5 ⟨o8, rfl, sg⟩
    exact sp7 G5 D Pp x y dx L R tl l0 l1 F rs ts us W pool oq o6 o7 o8 o9 hpl hpz (lt.same (s1.trans sg))
theorem blk5 (T : Txt K mg a) (FF : Funs K a) {cdv : Value} {A : Around} {outer : List Env} {s : Shared} {H : Hp} {Q : VK} {E0 : XK} (hr : Room 13 (A.deeper (PyProof.Rows.envOfC "law" (defScope slaw) s.heap.objs.size a.f_law cdv))) (k : ∀ H', Q (.bl true) H') :
    ∃ tt, PSs (cxOf CX0 P w K mg base n_law "law" (defScope slaw) a.f_law cdv A outer s H E0).nox ((defBody slaw).drop 5) tt ∧ ∀ (G : Hp) (D Pp x y dx L R tl l0 l1 : Addr) (F : List Addr) (rs : List Int) (ts us W pool : List Str) (oq o6 o7 o8 o9 : Option V), rs.length = 60 → (∀ r ∈ rs, 0 ≤ r ∧ r < 2147483629) → pool.length ≤ 10 → 2 ≤ pool.length → (∀ t ∈ pool, WordZ t) → (∀ t ∈ pool, t ∈ W) → ("rent" : Str) ∈ W → LT a G D Pp x y dx L R tl l0 l1 F rs ts us W pool →
        tt { nx := fun _ H' => Q .non H', rt := Q } [oq, some (.ref D), some (.ref Pp), some (.ref x), some (.ref y), some (.ref tl), o6, o7, o8, o9] G := by
  obtain ⟨t6, h6, sp6⟩ := blk6 (P := P) (w := w) (base := base) (outer := outer) (H := H) (E0 := E0) T FF hr k
  obtain ⟨fdS, F_l_step, b_l_step⟩ := FF.F_l_step
  obtain ⟨fdN, F_nam, b_Threads_names⟩ := FF.F_Threads_names
  obtain ⟨fdA, F_ans, b_Threads_answers_to⟩ := FF.F_Threads_answers_to
  obtain ⟨fdV, F_hav, b_Index_having⟩ := FF.F_Index_having
  obtain ⟨fdW, F_alw, b_Index_all_words⟩ := FF.F_Index_all_words
  have G_l_step : FnOk P w K mg base CX0 5 a.f_l_step fdS ["_law_call", "_law_threads", "_law_index", "_law_name", "_law_there"] (spStep a) := ok_step F_l_step T FF
  have G_Threads_names := ok_names (P := P) (w := w) (base := base) F_nam T
  have G_Threads_answers_to := ok_ansto (P := P) (w := w) (base := base) F_ans T
  have G_Index_having := ok_having (P := P) (w := w) (base := base) F_hav T
  have G_Index_all_words := ok_allwords (P := P) (w := w) (base := base) F_alw T
  have hr_l_step : Room 5 _ := hr.mono (by decide)
  have hu64 := hr.units
  refine ⟨_, (pss_cons (ps_for PassesOwn.never rfl (pi_range1 rfl T.b_range (pac (pe_op op_add pe_int (pe_op op_mod (pe_ix ix_list (pv 1) pe_int (fun _ _ => rfl)) pe_int)) pa_nil)) (pg_name (i := 6) sc_law.nd rfl (Or.inl rfl)) (pss_cons (ps_set (i := 7) sc_law.nd rfl (Or.inl rfl) (pe_ix ix_list (pv 2) (pe_op op_mod (pe_ix ix_list (pv 1) (pe_op op_add pe_int (pe_op op_mul pe_int (pv 6))) (fun _ _ => rfl)) (pe_callB call_len_seq rfl T.b_len PySem.boot_len (pac (pv 2) pa_nil))) (fun _ _ => rfl)))
        (pss_cons (ps_set (i := 8) sc_law.nd rfl (Or.inl rfl) (pe_op op_mod (pe_ix ix_list (pv 1) (pe_op op_add pe_int (pe_op op_mul pe_int (pv 6))) (fun _ _ => rfl)) pe_int))
        (pss_cons (ps_if (pt_not (pt_val (pe_call G_l_step hr_l_step rfl T.m_l_step F_l_step.kp b_l_step .nil pass0 (pac (pv 8) (pac (pv 3) (pac (pv 4) (pac (pv 7) (pac (pv 5) pa_nil)))))))) (pss_one (ps_ret pe_bl)) pss_nil)
        (pss_cons (ps_set (i := 9) sc_law.nd rfl (Or.inl rfl) (pe_ix ix_list (pe_lstS (pas_cons pe_int (pas_cons pe_int (pas_cons pe_int (pas_cons pe_int (pas_cons pe_int (pas_cons pe_int (pas_cons pe_int pas_nil)))))))) (pv 8) (fun _ _ => rfl)))
        (pss_cons (ps_if (PW.pt (pw_and (pt_cmpR op_eq (pe_op op_mod (pe_ix ix_list (pv 1) (pe_op op_add pe_int (pe_op op_mul pe_int (pv 6))) (fun _ _ => rfl)) pe_int) pe_int (nomark _)) (pw_and1 (pt_not (pt_val (pe_call G_l_step hr_l_step rfl T.m_l_step F_l_step.kp b_l_step .nil pass0 (pac (pv 9) (pac (pv 3) (pac (pv 4) (pac (pv 7) (pac (pv 5) pa_nil))))))))))) (pss_one (ps_ret pe_bl)) pss_nil)
        (pss_cons (ps_if (PW.pt (pw_or (pt_cmpR (op_neD hu64) (pe_meth0 (pv 3) T.c_Threads T.M_Threads_names G_Threads_names (hr.mono (by decide)) b_Threads_names .nil pass0) (pe_callB call_sorted rfl T.b_sorted PyProof.Rows.boot_sorted (pac (pe_ix ix_list (pv 5) pe_int (fun _ _ => rfl)) pa_nil)) (nomark _)) (pw_or1 (pt_cmpR (op_neD hu64) (pe_meth (pv 4) T.c_Index T.M_Index_having G_Index_having (hr.mono (by decide)) b_Index_having .nil pass0 (pac pe_str pa_nil)) (pe_callB call_sorted rfl T.b_sorted PyProof.Rows.boot_sorted (pac (pe_ix ix_list (pv 5) pe_int (fun _ _ => rfl)) pa_nil)) (nomark _))))) (pss_one (ps_ret pe_bl)) pss_nil)
        (pss_cons (ps_if (PW.pt (pw_or (pt_cmpR (op_neD hu64) (pe_meth (pv 3) T.c_Threads T.M_Threads_answers_to G_Threads_answers_to (hr.mono (by decide)) b_Threads_answers_to .nil pass0 (pac pe_str pa_nil)) (pe_lstS pas_nil) (nomark _)) (pw_or (pt_cmpR (op_neD hu64) (pe_meth (pv 4) T.c_Index T.M_Index_having G_Index_having (hr.mono (by decide)) b_Index_having .nil pass0 (pac pe_str pa_nil)) (pe_lstS pas_nil) (nomark _)) (pw_or1 (pt_cmpR op_in_seq pe_str (pe_meth0 (pv 4) T.c_Index T.M_Index_all_words G_Index_all_words (hr.mono (by decide)) b_Index_all_words .nil pass0) (by with_unfolding_all rfl)))))) (pss_one (ps_ret pe_bl)) pss_nil)
        (pss_one (ps_if (PW.pt (pw_and (pt_cmpR op_gt (pe_op op_mod (pe_ix ix_list (pv 1) (pe_op op_add pe_int (pe_op op_mul pe_int (pv 6))) (fun _ _ => rfl)) pe_int) pe_int (nomark _)) (pw_and1 (pt_not (pt_val (pe_call G_l_step hr_l_step rfl T.m_l_step F_l_step.kp b_l_step .nil pass0 (pac (pv 8) (pac (pv 3) (pac (pv 4) (pac (pv 7) (pac (pv 5) pa_nil))))))))))) (pss_one (ps_ret pe_bl)) pss_nil))))))))))
        h6), ?_⟩
  intro G D Pp x y dx L R tl l0 l1 F rs ts us W pool oq o6 o7 o8 o9 hrl hrb hpl hp2 hpz hpW hrW lt
  have hpw : ∀ t ∈ pool, WordS t := fun t ht => (hpz t ht).1
  obtain ⟨z2, e2, z20, z21⟩ := row_pick hrb 2 (by decide) (by omega)
  have hb1 := Int.emod_nonneg z2 (b := 13) (by decide)
  have hb2 := Int.emod_lt_of_pos z2 (b := 13) (by decide)
  refine ⟨_, rfl, D, _, _, _, rfl, rfl, SqL.of lt.dr, e2, _, _, rfl, rfl, (by show (0 : Int) < 13; decide), _, _, rfl, rfl, _, rfl, by omega, by omega, for_range (n := (2 + z2 % 13).toNat) (fun i σ G1 => Ex7 fun (o6 o7 o8 o9 : Option V) (F : List Addr) (ts us : List Str) => (σ = [oq, some (.ref D), some (.ref Pp), some (.ref x), some (.ref y), some (.ref tl), o6, o7, o8, o9]) ∧ (LT a G1 D Pp x y dx L R tl l0 l1 F rs ts us W pool))
    ⟨o6, o7, o8, o9, F, ts, us, rfl, lt⟩ ?_ ?_⟩
  · clear lt ts us F o6 o7 o8 o9
    rintro i σ G1 hi ⟨o6, o7, o8, o9, F, ts, us, rfl, lt⟩
    obtain ⟨zn, en, zn0, zn1⟩ := row_pick hrb (4 + 3 * (0 + (i : Int))) (by omega) (by omega)
    obtain ⟨zc, ec, zc0, zc1⟩ := row_pick hrb (5 + 3 * (0 + (i : Int))) (by omega) (by omega)
    obtain ⟨zd, ed, zd0, zd1⟩ := row_pick hrb (6 + 3 * (0 + (i : Int))) (by omega) (by omega)
    obtain ⟨v, hv, hvm, _⟩ := atI_mod (xs := pool.map V.str) zn (by rw [List.length_map]; omega)
    obtain ⟨nm, hnm, rfl⟩ := List.mem_map.mp hvm
    refine ⟨_, rfl, _, rfl, _, rfl, _, _, rfl, rfl, .inl ⟨by decide, by decide⟩, _, _, rfl, rfl, D, _, _, _, rfl, rfl, SqL.of lt.dr, en, _, rfl, Pp, _, rfl, .inl (SqL.of lt.pl), _, _, rfl, rfl, (by rw [List.length_map]; omega), Pp, _, _, _, rfl, rfl, SqL.of lt.pl, hv, ?_⟩
    have c0 := Int.emod_nonneg zc (b := 7) (by decide)
    have c1 := Int.emod_lt_of_pos zc (b := 7) (by decide)
    refine ⟨_, rfl, _, rfl, _, _, rfl, rfl, .inl ⟨by decide, by decide⟩, _, _, rfl, rfl, D, _, _, _, rfl, rfl, SqL.of lt.dr, ec, _, _, rfl, rfl, (by show (0 : Int) < 7; decide), ?_⟩
    refine ⟨_, rfl, _, rfl, _, rfl, _, rfl, _, rfl, x, y, dx, L, R, tl, l0, l1, F, ts, us, W, pool, zc % 7, nm, rfl, c0, by omega, lt.sl, hnm, hpl, hpw, hpW, hrW, fun G2 F2 ts2 us2 sl2 k2 sb2 => ⟨_, rfl, iteF ?_⟩⟩
    have lt2 := lt.step sl2 k2 sb2
    obtain ⟨cd, ecd, cd0, cd6⟩ := other_of c0 c1
    refine ⟨(by show 7 ≤ sizeLine; decide), fun u hu => ?_⟩
    have s3 : Same G2 (upd G2 u (.lst [.int 4, .int 5, .int 6, .int 4, .int 0, .int 1, .int 1])) := Same.upd_new hu
    have e3 : (upd G2 u (.lst [.int 4, .int 5, .int 6, .int 4, .int 0, .int 1, .int 1])) u = some (.lst [.int 4, .int 5, .int 6, .int 4, .int 0, .int 1, .int 1]) := upd_same
    have lt3 := lt2.same s3
    refine ⟨_, rfl, u, _, _, _, rfl, rfl, SqL.of e3, ecd, ?_⟩
    generalize upd G2 u (.lst [.int 4, .int 5, .int 6, .int 4, .int 0, .int 1, .int 1]) = G3 at lt3
    dsimp only [gName]
    refine seq_open fun N hN => ?_
    have rest : ∀ (G4 : Hp) (F4 : List Addr) (ts4 us4 : List Str), LT a G4 D Pp x y dx L R tl l0 l1 F4 rs ts4 us4 W pool → N [oq, some (.ref D), some (.ref Pp), some (.ref x), some (.ref y), some (.ref tl), some (.int (0 + (i : Int))), some (.str nm), some (.int (zc % 7)), some (.int cd)] G4 := by
      subst hN
      intro G4 F4 ts4 us4 lt4
      have hS := lt4.sl
      have asct : ∀ t ∈ ts4, Asc t := fun t ht => (hpw t (hS.st t ht)).asc
      have ascu : ∀ t ∈ us4, Asc t := fun t ht => (hpw t (hS.su t ht)).asc
      have htl : ts4.length ≤ 10 := by have := nodup_le hS.ndt hS.st; omega
      have hul : us4.length ≤ 10 := by have := nodup_le hS.ndu hS.su; omega
      have hzu : ¬ ("zother" : Str) ∈ us4 := fun z => (hpz _ (hS.su _ z)).2.1 rfl
      have ths : ∀ {G' : Hp}, Same G4 G' → THs a G' x (rowsE ts4) 10 := fun s => ⟨dx, L, R, [], hS.sb.th.same s, (by unfold rowsE; rw [List.length_map]; omega), by decide⟩
      obtain ⟨dy, E1, B1, oy⟩ := hS.sb.ix.obj
      have sht : SeqAt.shaped (.list ((sortS ts4).map PyData.str)) = true := shaped_strs fun t ht => asct t (sortS_mem.mp ht)
      have shu : SeqAt.shaped (.list ((sortS us4).map PyData.str)) = true := shaped_strs fun t ht => ascu t (sortS_mem.mp ht)
      have sh0 : SeqAt.shaped (.list (([] : List Str).map PyData.str)) = true := rfl
      refine ⟨_, rfl, x, dx, _, rfl, hS.sb.th.obj, rfl, x, rowsE ts4, 10, rfl, ths (Same.refl _), fun p5 G5 hp5 s5 e5 => ?_⟩
      rw [rowsE_names] at e5
      refine ⟨_, rfl, tl, _, _, _, rfl, rfl, SqL.of (s5 _ _ hS.tl_), rfl, l0, ts4, rfl, SqL.of (s5 _ _ hS.h0), by omega, fun p6 hp6 => ?_⟩
      have s6 : Same G5 (upd G5 p6 (.lst ((sortS ts4).map V.str))) := Same.upd_new hp6
      refine ⟨_, _, rd_strs (SqL.of (s6 _ _ e5)), rd_strs (SqL.of upd_same), sht, sht, _, rfl, ?_⟩
      rw [SeqAt.eqv_refl _ (SeqAt.canLay_of_shaped sht)]
      have s46 := s5.trans s6
      generalize upd G5 p6 (.lst ((sortS ts4).map V.str)) = G6 at s46
      refine iteF ⟨_, rfl, y, dy, _, rfl, s46 _ _ oy, rfl, y, nwE us4, W, 10, F4, "rent", rfl, hS.sb.ix.same s46, fun p7 G7 hp7 s7 e7 => ?_⟩
      rw [nwE_rent] at e7
      have s47 := s46.trans s7
      refine ⟨_, rfl, tl, _, _, _, rfl, rfl, SqL.of (s47 _ _ hS.tl_), rfl, l1, us4, rfl, SqL.of (s47 _ _ hS.h1), by omega, fun p8 hp8 => ?_⟩
      have s8 : Same G7 (upd G7 p8 (.lst ((sortS us4).map V.str))) := Same.upd_new hp8
      refine ⟨_, _, rd_strs (SqL.of (s8 _ _ e7)), rd_strs (SqL.of upd_same), shu, shu, _, rfl, ?_⟩
      rw [SeqAt.eqv_refl _ (SeqAt.canLay_of_shaped shu)]
      have s48 := s47.trans s8
      generalize upd G7 p8 (.lst ((sortS us4).map V.str)) = G8 at s48
      refine iteF ?_
      refine ⟨_, rfl, x, dx, _, rfl, s48 _ _ hS.sb.th.obj, rfl, x, rowsE ts4, 10, "zother", rfl, ths s48, (by decide +kernel), fun p9 G9 hp9 s9 e9 => ?_⟩
      rw [rowsE_reps (by decide +kernel)] at e9
      refine ⟨Nat.zero_le _, fun pa hpa => ?_⟩
      have sa : Same G9 (upd G9 pa (.lst [])) := Same.upd_new hpa
      refine ⟨_, _, rd_strs (xs := []) (SqL.of (sa _ _ e9)), rd_strs (xs := []) (SqL.of upd_same), sh0, sh0, _, rfl, ?_⟩
      have s4a := s48.trans (s9.trans sa)
      generalize upd G9 pa (.lst []) = Ga at s4a
      refine iteF ⟨_, rfl, y, dy, _, rfl, s4a _ _ oy, rfl, y, nwE us4, W, 10, F4, "zother", rfl, hS.sb.ix.same s4a, fun pb Gb hpb sb eb => ?_⟩
      rw [nwE_bear hzu (by decide +kernel)] at eb
      refine ⟨Nat.zero_le _, fun pc hpc => ?_⟩
      have sc : Same Gb (upd Gb pc (.lst [])) := Same.upd_new hpc
      refine ⟨_, _, rd_strs (xs := []) (SqL.of (sc _ _ eb)), rd_strs (xs := []) (SqL.of upd_same), sh0, sh0, _, rfl, ?_⟩
      have s4c := s4a.trans (sb.trans sc)
      generalize upd Gb pc (.lst []) = Gc at s4c
      refine iteF ⟨_, rfl, y, dy, _, rfl, s4c _ _ oy, rfl, y, nwE us4, W, 10, F4, rfl, hS.sb.ix.same s4c, fun pd Gd ks nd hks hk hpd sd ed' => ?_⟩
      refine ⟨pd, _, rfl, .inl (SqL.of ed'), rfl, flat_strs _, _, rfl, ?_⟩
      rw [if_neg Bool.false_ne_true, inV_strs, decide_eq_false]
      · refine iteF ?_
        have lt5 := lt4.same (s4c.trans sd)
        refine ⟨_, rfl, _, rfl, _, _, rfl, rfl, .inl ⟨by decide, by decide⟩, _, _, rfl, rfl, D, _, _, _, rfl, rfl, SqL.of lt5.dr, ed, _, _, rfl, rfl, (by show (0 : Int) < 3; decide), _, _, rfl, rfl, _, rfl, ?_⟩
        refine ite2 (fun _ => ?_) (fun _ => iteF ⟨_, _, _, _, F4, ts4, us4, rfl, lt5⟩)
        exact ⟨_, rfl, _, rfl, _, rfl, _, rfl, _, rfl, x, y, dx, L, R, tl, l0, l1, F4, ts4, us4, W, pool, zc % 7, nm, rfl, c0, by omega, lt5.sl, hnm, hpl, hpw, hpW, hrW, fun G6 F6 ts6 us6 sl6 k6 sb6 => ⟨_, rfl, iteF ⟨_, _, _, _, F6, ts6, us6, rfl, lt5.step sl6 k6 sb6⟩⟩⟩
      · intro z
        obtain ⟨r, hr1, hr2⟩ := (hk _).mp (sortS_mem.mp z)
        obtain ⟨u1, hu1, rfl⟩ := List.mem_map.mp hr1
        rcases mem_SS2.mp hr2 with e | e
        · exact hzu (by rw [e]; exact hu1)
        · exact absurd e (by decide +kernel)
    refine ⟨_, rfl, _, rfl, _, _, rfl, rfl, .inl ⟨by decide, by decide⟩, _, _, rfl, rfl, D, _, _, _, rfl, rfl, SqL.of lt3.dr, ed, _, _, rfl, rfl, (by show (0 : Int) < 3; decide), rfl, _, rfl, ?_⟩
    refine ite2 (fun _ => ?_) (fun _ => iteF (rest _ _ _ _ lt3))
    exact ⟨_, rfl, _, rfl, _, rfl, _, rfl, _, rfl, x, y, dx, L, R, tl, l0, l1, F2, ts2, us2, W, pool, cd, nm, rfl, cd0, cd6, lt3.sl, hnm, hpl, hpw, hpW, hrW, fun G5 F5 ts5 us5 sl5 k5 sb5 => ⟨_, rfl, iteF (rest _ _ _ _ (lt3.step sl5 k5 sb5))⟩⟩
  · rintro σ G1 ⟨o6, o7, o8, o9, F, ts, us, rfl, lt⟩
    exact sp6 G1 D Pp x y dx L R tl l0 l1 F rs ts us W pool oq o6 o7 o8 o9 hrl hrb hpl hp2 hpz hpW hrW lt
end
section
variable {P : Program} {w : World} {K : PySem.W.Frag} {mg : Str → Option Value} {base : Heap} {a : Adr}
theorem ok_law {fd : FuncData} (F : Fun K "law" "law" slaw a.f_law fd) (T : Txt K mg a) (FF : Funs K a) : FnOk P w K mg base CX0 14 a.f_law fd ["_law_script"] (spLaw K) := by
  obtain ⟨fdR, F_l_draws, b_l_draws⟩ := FF.F_l_draws
  obtain ⟨fdS, F_l_pool, b_l_pool⟩ := FF.F_l_pool
  obtain ⟨fdI, F_ini, b_Threads_init⟩ := FF.F_Threads_init
  obtain ⟨fdJ, F_inj, b_Index_init⟩ := FF.F_Index_init
  have G_l_draws : FnOk P w K mg base CX0 1 a.f_l_draws fdR ["_law_script", "_law_many"] (spDraws K) := ok_draws F_l_draws T
  have G_l_pool : FnOk P w K mg base CX0 2 a.f_l_pool fdS ["_law_draws_here"] (spPool K) := ok_pool F_l_pool T FF
  have G_Threads_init : FnOk P w K mg base CX0 1 a.f_Threads_init fdI ["self"] (spTInit a) := ok_tinit F_ini T
  have G_Index_init : FnOk P w K mg base CX0 1 a.f_Index_init fdJ ["self"] (spIInit a) := ok_iinit F_inj T
  refine F.ok sc_law (fun vs H Q E h => ?_) (fun cdv A outer s H vs Q E0 hr h => ?_)
  · obtain ⟨x, ns, rfl, _⟩ := h; rfl
  · obtain ⟨q, ls, rfl, hS, hlen, k⟩ := h
    obtain ⟨t5, h5, sp5⟩ := blk5 (P := P) (w := w) (base := base) (outer := outer) (H := H) (E0 := E0) T FF hr k
    have hr_l_draws : Room 1 _ := hr.mono (by decide)
    have hr_l_pool : Room 2 _ := hr.mono (by decide)
    have hr_Threads_mk : Room 2 _ := hr.mono (by decide)
    have hr_Index_mk : Room 2 _ := hr.mono (by decide)
    refine ⟨_, (pss_cons (ps_set (i := 1) sc_law.nd rfl (Or.inl rfl) (pe_call G_l_draws hr_l_draws rfl T.m_l_draws F_l_draws.kp b_l_draws .nil pass0 (pac (pv 0) (pac pe_int pa_nil))))
        (pss_cons (ps_set (i := 2) sc_law.nd rfl (Or.inl rfl) (pe_call G_l_pool hr_l_pool rfl T.m_l_pool F_l_pool.kp b_l_pool .nil pass0 (pac (pv 1) pa_nil)))
        (pss_cons (ps_set (i := 3) sc_law.nd rfl (Or.inl rfl) (pe_make0 T.k_Threads G_Threads_init hr_Threads_mk rfl T.mc_Threads b_Threads_init .nil pass0))
        (pss_cons (ps_set (i := 4) sc_law.nd rfl (Or.inl rfl) (pe_make0 T.k_Index G_Index_init hr_Index_mk rfl T.mc_Index b_Index_init .nil pass0))
        (pss_cons (ps_set (i := 5) sc_law.nd rfl (Or.inl rfl) (pe_lstS (pas_cons (pe_lstS pas_nil) (pas_cons (pe_lstS pas_nil) pas_nil))))
        h5))))), ?_⟩
    refine ⟨_, rfl, q, ls, 60, rfl, hS, by decide, fun D rs H1 hrl hrb s1 hD => ?_⟩
    refine ⟨_, rfl, D, rs, rfl, hD, by omega, hrb, fun Pp pool H2 hp2 hpl hpz s2 hP => ?_⟩
    intro x dx0 nx nd ne
    refine ⟨x, dx0, rfl, upd_same, fun H3 hs3 ths3 => ⟨rfl, ?_⟩⟩
    have s3 : Same H2 H3 := fun c o e => hs3 c o (ne_of_none e nx) (by rw [upd_ne (ne_of_none e nx), upd_ne (ne_of_none e nd)]; exact e)
    intro y dy0 ny ndy ney
    refine ⟨y, dy0, pool ++ [("rent" : Str)], rfl, (by rw [List.length_append, List.length_singleton]; omega), upd_same, fun H4 F hs4 hf4 ix4 => ⟨rfl, ?_⟩⟩
    have s4 : Same H3 H4 := fun c o e => hs4 c o (ne_of_none e ny) (by rw [upd_ne (ne_of_none e ny), upd_ne (ne_of_none e ndy)]; exact e)
    have nF : ∀ c o, H3 c = some o → ¬ c ∈ F := fun c o e z => by
      have := hf4 c z
      rw [upd_ne (ne_of_none e ny), upd_ne (ne_of_none e ndy), e] at this
      cases this
    obtain ⟨dx, L, R, kr, th3, hl1, hl2⟩ := ths3
    have hkr : kr = [] := List.eq_nil_of_length_eq_zero (Nat.le_zero.mp hl2)
    subst hkr
    refine ⟨Nat.zero_le _, fun l0 hl0 => ⟨Nat.zero_le _, fun l1 hl1' => ⟨(by show 2 ≤ sizeLine; decide), fun tl htl => ?_⟩⟩⟩
    have s5 : Same H4 (upd H4 l0 (.lst [])) := Same.upd_new hl0
    have e5 : (upd H4 l0 (.lst [])) l0 = some (.lst []) := upd_same
    generalize upd H4 l0 (.lst []) = H5 at s5 e5 hl1' htl
    have s6 : Same H5 (upd H5 l1 (.lst [])) := Same.upd_new hl1'
    have e6 : (upd H5 l1 (.lst [])) l1 = some (.lst []) := upd_same
    generalize upd H5 l1 (.lst []) = H6 at s6 e6 htl
    have s7 : Same H6 (upd H6 tl (.lst [.ref l0, .ref l1])) := Same.upd_new htl
    have e7 : (upd H6 tl (.lst [.ref l0, .ref l1])) tl = some (.lst [.ref l0, .ref l1]) := upd_same
    generalize upd H6 tl (.lst [.ref l0, .ref l1]) = H7 at s7 e7
    have s47 := s5.trans (s6.trans s7)
    have n0 : H4 l0 = none := hl0
    have n1 : H4 l1 = none := s5.free hl1'
    have nt : H4 tl = none := s5.free (s6.free htl)
    have D4 := s4 _ _ (s3 _ _ (s2 _ _ hD))
    have P4 := s4 _ _ (s3 _ _ hP)
    refine sp5 H7 D Pp x y dx L R tl l0 l1 F rs [] [] (pool ++ [("rent" : Str)]) pool _ _ _ _ _ hrl hrb hpl hp2 hpz (fun t ht => List.mem_append_left _ ht) (List.mem_append_right _ (List.mem_singleton.mpr rfl)) ⟨⟨⟨(th3.same s4).same s47, (ix4.same s47).at (Nat.zero_le _), nF _ _ th3.lk, nF _ _ th3.rp⟩, e7, s7 _ _ (s6 _ _ e5), s7 _ _ e6, ix4.notIn n0, ix4.notIn n1, ix4.notIn nt, ne_of_none e5 hl1', (ne_of_none (s6 _ _ e5) htl).symm, (ne_of_none e6 htl).symm, List.nodup_nil, List.nodup_nil, (fun _ z => nomatch z), (fun _ z => nomatch z)⟩, s47 _ _ D4, s47 _ _ P4, nF _ _ (s3 _ _ (s2 _ _ hD)), nF _ _ (s3 _ _ hP), ne_of_none D4 n0, ne_of_none D4 n1, ne_of_none P4 n0, ne_of_none P4 n1⟩
end
theorem all_mk {l : PySem.W.OpenLaw} {w : World} {K : PySem.W.Frag} {h : Heap} {mg : Str → Option Value} {fa : Addr} (X : K.In h) (G : h.Ns mainGlobals mg) (hfa : mg "law" = some (.ref fa))
    {f1 : Addr} {od1 an1 : Option Addr} {sl1 : Array (Option Value)} {oc1 kV1 dc1 pm1 cd1 ct1 : Value}
    {f2 : Addr} {od2 an2 : Option Addr} {sl2 : Array (Option Value)} {oc2 kV2 dc2 pm2 cd2 ct2 : Value}
    {f3 : Addr} {od3 an3 : Option Addr} {sl3 : Array (Option Value)} {oc3 kV3 dc3 pm3 cd3 ct3 : Value}
    {f4 : Addr} {od4 an4 : Option Addr} {sl4 : Array (Option Value)} {oc4 kV4 dc4 pm4 cd4 ct4 : Value}
    {f5 : Addr} {od5 an5 : Option Addr} {sl5 : Array (Option Value)} {oc5 kV5 dc5 pm5 cd5 ct5 : Value}
    {f6 : Addr} {od6 an6 : Option Addr} {sl6 : Array (Option Value)} {oc6 kV6 dc6 pm6 cd6 ct6 : Value}
    {f7 : Addr} {od7 an7 : Option Addr} {sl7 : Array (Option Value)} {oc7 kV7 dc7 pm7 cd7 ct7 : Value}
    {f8 : Addr} {od8 an8 : Option Addr} {sl8 : Array (Option Value)} {oc8 kV8 dc8 pm8 cd8 ct8 : Value}
    {f9 : Addr} {od9 an9 : Option Addr} {sl9 : Array (Option Value)} {oc9 kV9 dc9 pm9 cd9 ct9 : Value}
    {f10 : Addr} {od10 an10 : Option Addr} {sl10 : Array (Option Value)} {oc10 kV10 dc10 pm10 cd10 ct10 : Value}
    {f11 : Addr} {od11 an11 : Option Addr} {sl11 : Array (Option Value)} {oc11 kV11 dc11 pm11 cd11 ct11 : Value}
    {f12 : Addr} {od12 an12 : Option Addr} {sl12 : Array (Option Value)} {oc12 kV12 dc12 pm12 cd12 ct12 : Value}
    {f13 : Addr} {od13 an13 : Option Addr} {sl13 : Array (Option Value)} {oc13 kV13 dc13 pm13 cd13 ct13 : Value}
    {f14 : Addr} {od14 an14 : Option Addr} {sl14 : Array (Option Value)} {oc14 kV14 dc14 pm14 cd14 ct14 : Value}
    {f15 : Addr} {od15 an15 : Option Addr} {sl15 : Array (Option Value)} {oc15 kV15 dc15 pm15 cd15 ct15 : Value}
    {f16 : Addr} {od16 an16 : Option Addr} {sl16 : Array (Option Value)} {oc16 kV16 dc16 pm16 cd16 ct16 : Value}
    {f17 : Addr} {od17 an17 : Option Addr} {sl17 : Array (Option Value)} {oc17 kV17 dc17 pm17 cd17 ct17 : Value}
    {f18 : Addr} {od18 an18 : Option Addr} {sl18 : Array (Option Value)} {oc18 kV18 dc18 pm18 cd18 ct18 : Value}
    {f19 : Addr} {od19 an19 : Option Addr} {sl19 : Array (Option Value)} {oc19 kV19 dc19 pm19 cd19 ct19 : Value}
    {f20 : Addr} {od20 an20 : Option Addr} {sl20 : Array (Option Value)} {oc20 kV20 dc20 pm20 cd20 ct20 : Value}
    {f21 : Addr} {od21 an21 : Option Addr} {sl21 : Array (Option Value)} {oc21 kV21 dc21 pm21 cd21 ct21 : Value}
    {f22 : Addr} {od22 an22 : Option Addr} {sl22 : Array (Option Value)} {oc22 kV22 dc22 pm22 cd22 ct22 : Value}
    {f23 : Addr} {od23 an23 : Option Addr} {sl23 : Array (Option Value)} {oc23 kV23 dc23 pm23 cd23 ct23 : Value}
    {f24 : Addr} {od24 an24 : Option Addr} {sl24 : Array (Option Value)} {oc24 kV24 dc24 pm24 cd24 ct24 : Value}
    {f25 : Addr} {od25 an25 : Option Addr} {sl25 : Array (Option Value)} {oc25 kV25 dc25 pm25 cd25 ct25 : Value}
    {f26 : Addr} {od26 an26 : Option Addr} {sl26 : Array (Option Value)} {oc26 kV26 dc26 pm26 cd26 ct26 : Value}
    {C_Index : Addr}
    {C_Threads : Addr}
    {C_MailError : Addr}
    {C_NoName : Addr}
    {C_NoWord : Addr}
    {C_NoLetter : Addr}
    {C_NoRule : Addr}
    {C_NoParcel : Addr}
    {C_NoRow : Addr}
    {D19 : Addr} {Do19 : Value} {Dd19 : Option Addr} {Dn19 : Nat} {Ds19 : Array (Option Value)} {dv19_0 : Value}
    (q_Index : PySem.W.nsIn K mainGlobals "Index" = some (some (.ref C_Index)))
    (q_Threads : PySem.W.nsIn K mainGlobals "Threads" = some (some (.ref C_Threads)))
    (q_MailError : PySem.W.nsIn K mainGlobals "MailError" = some (some (.ref C_MailError)))
    (q_NoName : PySem.W.nsIn K mainGlobals "NoName" = some (some (.ref C_NoName)))
    (q_NoWord : PySem.W.nsIn K mainGlobals "NoWord" = some (some (.ref C_NoWord)))
    (q_NoLetter : PySem.W.nsIn K mainGlobals "NoLetter" = some (some (.ref C_NoLetter)))
    (q_NoRule : PySem.W.nsIn K mainGlobals "NoRule" = some (some (.ref C_NoRule)))
    (q_NoParcel : PySem.W.nsIn K mainGlobals "NoParcel" = some (some (.ref C_NoParcel)))
    (q_NoRow : PySem.W.nsIn K mainGlobals "NoRow" = some (some (.ref C_NoRow)))
    (a1 : PySem.W.nsIn K mainGlobals "_wall" = some (some (.ref f1)))
    (l1 : K.lookup f1 = some ⟨oc1, od1, .func (PySem.W.fnOf "_wall" "_wall" (defArgs swall) (defBody swall) (defScope swall) .none kV1 dc1 pm1 an1 cd1 ct1), sl1⟩)
    (c1 : PySem.W.codeIn K cd1 "_wall" = true)
    (k1 : PySem.W.keepIn K (.ref f1) = true)
    (a2 : PySem.W.nsIn K mainGlobals "check_there" = some (some (.ref f2)))
    (l2 : K.lookup f2 = some ⟨oc2, od2, .func (PySem.W.fnOf "check_there" "check_there" (defArgs scheck_there) (defBody scheck_there) (defScope scheck_there) .none kV2 dc2 pm2 an2 cd2 ct2), sl2⟩)
    (c2 : PySem.W.codeIn K cd2 "check_there" = true)
    (k2 : PySem.W.keepIn K (.ref f2) = true)
    (a3 : PySem.W.nsIn K mainGlobals "check_new" = some (some (.ref f3)))
    (l3 : K.lookup f3 = some ⟨oc3, od3, .func (PySem.W.fnOf "check_new" "check_new" (defArgs scheck_new) (defBody scheck_new) (defScope scheck_new) .none kV3 dc3 pm3 an3 cd3 ct3), sl3⟩)
    (c3 : PySem.W.codeIn K cd3 "check_new" = true)
    (k3 : PySem.W.keepIn K (.ref f3) = true)
    (a4 : PySem.W.nsIn K mainGlobals "_law_draws" = some (some (.ref f4)))
    (l4 : K.lookup f4 = some ⟨oc4, od4, .func (PySem.W.fnOf "_law_draws" "_law_draws" (defArgs sl_draws) (defBody sl_draws) (defScope sl_draws) .none kV4 dc4 pm4 an4 cd4 ct4), sl4⟩)
    (c4 : PySem.W.codeIn K cd4 "_law_draws" = true)
    (k4 : PySem.W.keepIn K (.ref f4) = true)
    (a5 : PySem.W.nsIn K mainGlobals "_law_name_by" = some (some (.ref f5)))
    (l5 : K.lookup f5 = some ⟨oc5, od5, .func (PySem.W.fnOf "_law_name_by" "_law_name_by" (defArgs sl_name_by) (defBody sl_name_by) (defScope sl_name_by) .none kV5 dc5 pm5 an5 cd5 ct5), sl5⟩)
    (c5 : PySem.W.codeIn K cd5 "_law_name_by" = true)
    (k5 : PySem.W.keepIn K (.ref f5) = true)
    (a6 : PySem.W.nsIn K mainGlobals "_law_pool" = some (some (.ref f6)))
    (l6 : K.lookup f6 = some ⟨oc6, od6, .func (PySem.W.fnOf "_law_pool" "_law_pool" (defArgs sl_pool) (defBody sl_pool) (defScope sl_pool) .none kV6 dc6 pm6 an6 cd6 ct6), sl6⟩)
    (c6 : PySem.W.codeIn K cd6 "_law_pool" = true)
    (k6 : PySem.W.keepIn K (.ref f6) = true)
    (a7 : PySem.W.nsIn K mainGlobals "_law_called" = some (some (.ref f7)))
    (l7 : K.lookup f7 = some ⟨oc7, od7, .func (PySem.W.fnOf "_law_called" "_law_called" (defArgs sl_called) (defBody sl_called) (defScope sl_called) .none kV7 dc7 pm7 an7 cd7 ct7), sl7⟩)
    (c7 : PySem.W.codeIn K cd7 "_law_called" = true)
    (k7 : PySem.W.keepIn K (.ref f7) = true)
    (a8 : PySem.W.nsIn K mainGlobals "_law_refused" = some (some (.ref f8)))
    (l8 : K.lookup f8 = some ⟨oc8, od8, .func (PySem.W.fnOf "_law_refused" "_law_refused" (defArgs sl_refused) (defBody sl_refused) (defScope sl_refused) .none kV8 dc8 pm8 an8 cd8 ct8), sl8⟩)
    (c8 : PySem.W.codeIn K cd8 "_law_refused" = true)
    (k8 : PySem.W.keepIn K (.ref f8) = true)
    (a9 : PySem.W.nsIn K mainGlobals "_law_due" = some (some (.ref f9)))
    (l9 : K.lookup f9 = some ⟨oc9, od9, .func (PySem.W.fnOf "_law_due" "_law_due" (defArgs sl_due) (defBody sl_due) (defScope sl_due) .none kV9 dc9 pm9 an9 cd9 ct9), sl9⟩)
    (c9 : PySem.W.codeIn K cd9 "_law_due" = true)
    (k9 : PySem.W.keepIn K (.ref f9) = true)
    (a10 : PySem.W.nsIn K mainGlobals "_law_step" = some (some (.ref f10)))
    (l10 : K.lookup f10 = some ⟨oc10, od10, .func (PySem.W.fnOf "_law_step" "_law_step" (defArgs sl_step) (defBody sl_step) (defScope sl_step) .none kV10 dc10 pm10 an10 cd10 ct10), sl10⟩)
    (c10 : PySem.W.codeIn K cd10 "_law_step" = true)
    (k10 : PySem.W.keepIn K (.ref f10) = true)
    (a11 : PySem.W.nsIn K mainGlobals "law" = some (some (.ref f11)))
    (l11 : K.lookup f11 = some ⟨oc11, od11, .func (PySem.W.fnOf "law" "law" (defArgs slaw) (defBody slaw) (defScope slaw) .none kV11 dc11 pm11 an11 cd11 ct11), sl11⟩)
    (c11 : PySem.W.codeIn K cd11 "law" = true)
    (k11 : PySem.W.keepIn K (.ref f11) = true)
    (a12 : PySem.W.findIn K (.ref C_Index) "__init__" = some (some (.ref f12)))
    (i12 : PySem.W.isFn K (.ref f12) = true)
    (l12 : K.lookup f12 = some ⟨oc12, od12, .func (PySem.W.fnOf "__init__" "Index.__init__" (defArgs sIndex_init) (defBody sIndex_init) (defScope sIndex_init) .none kV12 dc12 pm12 an12 cd12 ct12), sl12⟩)
    (c12 : PySem.W.codeIn K cd12 "Index.__init__" = true)
    (k12 : PySem.W.keepIn K (.ref f12) = true)
    (a13 : PySem.W.findIn K (.ref C_Index) "add" = some (some (.ref f13)))
    (i13 : PySem.W.isFn K (.ref f13) = true)
    (l13 : K.lookup f13 = some ⟨oc13, od13, .func (PySem.W.fnOf "add" "Index.add" (defArgs sIndex_add) (defBody sIndex_add) (defScope sIndex_add) .none kV13 dc13 pm13 an13 cd13 ct13), sl13⟩)
    (c13 : PySem.W.codeIn K cd13 "Index.add" = true)
    (k13 : PySem.W.keepIn K (.ref f13) = true)
    (a14 : PySem.W.findIn K (.ref C_Index) "take_out" = some (some (.ref f14)))
    (i14 : PySem.W.isFn K (.ref f14) = true)
    (l14 : K.lookup f14 = some ⟨oc14, od14, .func (PySem.W.fnOf "take_out" "Index.take_out" (defArgs sIndex_take_out) (defBody sIndex_take_out) (defScope sIndex_take_out) .none kV14 dc14 pm14 an14 cd14 ct14), sl14⟩)
    (c14 : PySem.W.codeIn K cd14 "Index.take_out" = true)
    (k14 : PySem.W.keepIn K (.ref f14) = true)
    (a15 : PySem.W.findIn K (.ref C_Index) "having" = some (some (.ref f15)))
    (i15 : PySem.W.isFn K (.ref f15) = true)
    (l15 : K.lookup f15 = some ⟨oc15, od15, .func (PySem.W.fnOf "having" "Index.having" (defArgs sIndex_having) (defBody sIndex_having) (defScope sIndex_having) .none kV15 dc15 pm15 an15 cd15 ct15), sl15⟩)
    (c15 : PySem.W.codeIn K cd15 "Index.having" = true)
    (k15 : PySem.W.keepIn K (.ref f15) = true)
    (a16 : PySem.W.findIn K (.ref C_Index) "words" = some (some (.ref f16)))
    (i16 : PySem.W.isFn K (.ref f16) = true)
    (l16 : K.lookup f16 = some ⟨oc16, od16, .func (PySem.W.fnOf "words" "Index.words" (defArgs sIndex_words) (defBody sIndex_words) (defScope sIndex_words) .none kV16 dc16 pm16 an16 cd16 ct16), sl16⟩)
    (c16 : PySem.W.codeIn K cd16 "Index.words" = true)
    (k16 : PySem.W.keepIn K (.ref f16) = true)
    (a17 : PySem.W.findIn K (.ref C_Index) "all_words" = some (some (.ref f17)))
    (i17 : PySem.W.isFn K (.ref f17) = true)
    (l17 : K.lookup f17 = some ⟨oc17, od17, .func (PySem.W.fnOf "all_words" "Index.all_words" (defArgs sIndex_all_words) (defBody sIndex_all_words) (defScope sIndex_all_words) .none kV17 dc17 pm17 an17 cd17 ct17), sl17⟩)
    (c17 : PySem.W.codeIn K cd17 "Index.all_words" = true)
    (k17 : PySem.W.keepIn K (.ref f17) = true)
    (a18 : PySem.W.findIn K (.ref C_Threads) "__init__" = some (some (.ref f18)))
    (i18 : PySem.W.isFn K (.ref f18) = true)
    (l18 : K.lookup f18 = some ⟨oc18, od18, .func (PySem.W.fnOf "__init__" "Threads.__init__" (defArgs sThreads_init) (defBody sThreads_init) (defScope sThreads_init) .none kV18 dc18 pm18 an18 cd18 ct18), sl18⟩)
    (c18 : PySem.W.codeIn K cd18 "Threads.__init__" = true)
    (k18 : PySem.W.keepIn K (.ref f18) = true)
    (a19 : PySem.W.findIn K (.ref C_Threads) "add" = some (some (.ref f19)))
    (i19 : PySem.W.isFn K (.ref f19) = true)
    (l19 : K.lookup f19 = some ⟨oc19, od19, .func (PySem.W.fnOf "add" "Threads.add" (defArgs sThreads_add) (defBody sThreads_add) (defScope sThreads_add) (.ref D19) kV19 dc19 pm19 an19 cd19 ct19), sl19⟩)
    (t19 : K.lookup D19 = some ⟨Do19, Dd19, .seq #[dv19_0] Dn19, Ds19⟩)
    (rd19_0 : RelV (.str "") dv19_0)
    (c19 : PySem.W.codeIn K cd19 "Threads.add" = true)
    (k19 : PySem.W.keepIn K (.ref f19) = true)
    (a20 : PySem.W.findIn K (.ref C_Threads) "take_out" = some (some (.ref f20)))
    (i20 : PySem.W.isFn K (.ref f20) = true)
    (l20 : K.lookup f20 = some ⟨oc20, od20, .func (PySem.W.fnOf "take_out" "Threads.take_out" (defArgs sThreads_take_out) (defBody sThreads_take_out) (defScope sThreads_take_out) .none kV20 dc20 pm20 an20 cd20 ct20), sl20⟩)
    (c20 : PySem.W.codeIn K cd20 "Threads.take_out" = true)
    (k20 : PySem.W.keepIn K (.ref f20) = true)
    (a21 : PySem.W.findIn K (.ref C_Threads) "names" = some (some (.ref f21)))
    (i21 : PySem.W.isFn K (.ref f21) = true)
    (l21 : K.lookup f21 = some ⟨oc21, od21, .func (PySem.W.fnOf "names" "Threads.names" (defArgs sThreads_names) (defBody sThreads_names) (defScope sThreads_names) .none kV21 dc21 pm21 an21 cd21 ct21), sl21⟩)
    (c21 : PySem.W.codeIn K cd21 "Threads.names" = true)
    (k21 : PySem.W.keepIn K (.ref f21) = true)
    (a22 : PySem.W.findIn K (.ref C_Threads) "answers_to" = some (some (.ref f22)))
    (i22 : PySem.W.isFn K (.ref f22) = true)
    (l22 : K.lookup f22 = some ⟨oc22, od22, .func (PySem.W.fnOf "answers_to" "Threads.answers_to" (defArgs sThreads_answers_to) (defBody sThreads_answers_to) (defScope sThreads_answers_to) .none kV22 dc22 pm22 an22 cd22 ct22), sl22⟩)
    (c22 : PySem.W.codeIn K cd22 "Threads.answers_to" = true)
    (k22 : PySem.W.keepIn K (.ref f22) = true)
    (a23 : PySem.W.findIn K (.ref C_Threads) "beside" = some (some (.ref f23)))
    (i23 : PySem.W.isFn K (.ref f23) = true)
    (l23 : K.lookup f23 = some ⟨oc23, od23, .func (PySem.W.fnOf "beside" "Threads.beside" (defArgs sThreads_beside) (defBody sThreads_beside) (defScope sThreads_beside) .none kV23 dc23 pm23 an23 cd23 ct23), sl23⟩)
    (c23 : PySem.W.codeIn K cd23 "Threads.beside" = true)
    (k23 : PySem.W.keepIn K (.ref f23) = true)
    (a24 : PySem.W.findIn K (.ref C_Threads) "thread" = some (some (.ref f24)))
    (i24 : PySem.W.isFn K (.ref f24) = true)
    (l24 : K.lookup f24 = some ⟨oc24, od24, .func (PySem.W.fnOf "thread" "Threads.thread" (defArgs sThreads_thread) (defBody sThreads_thread) (defScope sThreads_thread) .none kV24 dc24 pm24 an24 cd24 ct24), sl24⟩)
    (c24 : PySem.W.codeIn K cd24 "Threads.thread" = true)
    (k24 : PySem.W.keepIn K (.ref f24) = true)
    (a25 : PySem.W.findIn K (.ref C_Threads) "threads" = some (some (.ref f25)))
    (i25 : PySem.W.isFn K (.ref f25) = true)
    (l25 : K.lookup f25 = some ⟨oc25, od25, .func (PySem.W.fnOf "threads" "Threads.threads" (defArgs sThreads_threads) (defBody sThreads_threads) (defScope sThreads_threads) .none kV25 dc25 pm25 an25 cd25 ct25), sl25⟩)
    (c25 : PySem.W.codeIn K cd25 "Threads.threads" = true)
    (k25 : PySem.W.keepIn K (.ref f25) = true)
    (a26 : PySem.W.findIn K (.ref C_Threads) "depth" = some (some (.ref f26)))
    (i26 : PySem.W.isFn K (.ref f26) = true)
    (l26 : K.lookup f26 = some ⟨oc26, od26, .func (PySem.W.fnOf "depth" "Threads.depth" (defArgs sThreads_depth) (defBody sThreads_depth) (defScope sThreads_depth) .none kV26 dc26 pm26 an26 cd26 ct26), sl26⟩)
    (c26 : PySem.W.codeIn K cd26 "Threads.depth" = true)
    (k26 : PySem.W.keepIn K (.ref f26) = true)
    (pg_Index : PySem.W.plainGet K C_Index Str.empty = true)
    (hd_Index : PySem.W.hasDictIn K C_Index = true)
    (po_Index : PySem.W.plainOver K C_Index = true)
    (sa_Index : PySem.W.findIn K (.ref C_Index) "__setattr__" = some (some (.builtin "object.__setattr__")))
    (kc_Index : PySem.W.keepIn K (.ref C_Index) = true)
    (mk_Index : PySem.W.makesIn K C_Index = true)
    (n_Index_entries : PySem.W.findIn K (.ref C_Index) "entries" = some none)
    (n_Index_bearers : PySem.W.findIn K (.ref C_Index) "bearers" = some none)
    (pg_Threads : PySem.W.plainGet K C_Threads Str.empty = true)
    (hd_Threads : PySem.W.hasDictIn K C_Threads = true)
    (po_Threads : PySem.W.plainOver K C_Threads = true)
    (sa_Threads : PySem.W.findIn K (.ref C_Threads) "__setattr__" = some (some (.builtin "object.__setattr__")))
    (kc_Threads : PySem.W.keepIn K (.ref C_Threads) = true)
    (mk_Threads : PySem.W.makesIn K C_Threads = true)
    (n_Threads_links : PySem.W.findIn K (.ref C_Threads) "links" = some none)
    (n_Threads_replies : PySem.W.findIn K (.ref C_Threads) "replies" = some none)
    (x_MailError : PySem.W.excIn K C_MailError mroVE "ValueError.__new__" = true)
    (x_NoName : PySem.W.excIn K C_NoName mroVE "ValueError.__new__" = true)
    (s_NoName_MailError : PySem.W.mroIn K C_NoName (.ref C_MailError) = some true)
    (gx_hn : PySem.W.specialIn K (.builtin "object.__class__") "__get__" = some (some (.builtin "getset_descriptor.__get__")))
    (gx_tk : PySem.W.takesIn K (.builtin "object.__class__") = some true)
    (xga_NoName : PySem.W.findIn K (.ref C_NoName) "__getattribute__" = some (some (.builtin "BaseException.__getattribute__")))
    (xgt_NoName : PySem.W.findIn K (.ref C_NoName) "__getattr__" = some none)
    (xcl_NoName : PySem.W.hasDictIn K C_NoName = true)
    (xca_NoName : PySem.W.findIn K (.ref C_NoName) "__class__" = some (some (.builtin "object.__class__")))
    (xmo_NoName : PySem.W.mroIn K C_NoName (.type "object") = some true)
    (xmb_NoName : PySem.W.mroIn K C_NoName (.type "BaseException") = some true)
    (ki_NoName_NoWord : PySem.W.kitOne K (.ref C_NoName) (.ref C_NoWord) = some false)
    (ki_NoName_NoLetter : PySem.W.kitOne K (.ref C_NoName) (.ref C_NoLetter) = some false)
    (ki_NoName_NoRule : PySem.W.kitOne K (.ref C_NoName) (.ref C_NoRule) = some false)
    (ki_NoName_NoName : PySem.W.kitOne K (.ref C_NoName) (.ref C_NoName) = some true)
    (ki_NoName_ValueError : PySem.W.kitOne K (.ref C_NoName) (.type "ValueError") = some true)
    (ki_NoName_NoParcel : PySem.W.kitOne K (.ref C_NoName) (.ref C_NoParcel) = some false)
    (ki_NoName_NoRow : PySem.W.kitOne K (.ref C_NoName) (.ref C_NoRow) = some false)
    (zVE : PySem.W.nsIn K mainGlobals "ValueError" = some none)
    (z1 : PySem.W.nsIn K mainGlobals "len" = some none)
    (z2 : PySem.W.nsIn K mainGlobals "range" = some none)
    (z3 : PySem.W.nsIn K mainGlobals "isinstance" = some none)
    (z4 : PySem.W.nsIn K mainGlobals "str" = some none)
    (z5 : PySem.W.nsIn K mainGlobals "int" = some none)
    (z6 : PySem.W.nsIn K mainGlobals "bool" = some none)
    (z7 : PySem.W.nsIn K mainGlobals "list" = some none)
    (z8 : PySem.W.nsIn K mainGlobals "set" = some none)
    (z9 : PySem.W.nsIn K mainGlobals "sorted" = some none) :
    ∃ fd : FuncData, (∀ (s : Shared) (v : Value), BindsTo s fd ⟨[v], []⟩ [("_law_script", v)]) ∧ ∀ base : Heap, K.In base → base.Ns mainGlobals mg → FnOk l.prog w K mg base CX0 14 fa fd ["_law_script"] (spLaw K) := by
  have e := hfa.symm.trans (PySem.W.mg_of X G a11)
  cases e
  have F1 := fun_mk (st := swall) l1 c1 k1
  have b1 := F1.binds (ps := ["k"]) fun _ _ _ _ _ _ => by refine us_1 ?_; intros; rfl
  have F2 := fun_mk (st := scheck_there) l2 c2 k2
  have b2 := F2.binds (ps := ["name", "there"]) fun _ _ _ _ _ _ => by refine us_2 ?_; intros; rfl
  have F3 := fun_mk (st := scheck_new) l3 c3 k3
  have b3 := F3.binds (ps := ["name", "there"]) fun _ _ _ _ _ _ => by refine us_2 ?_; intros; rfl
  have F4 := fun_mk (st := sl_draws) l4 c4 k4
  have b4 := F4.binds (ps := ["_law_script", "_law_many"]) fun _ _ _ _ _ _ => by refine us_2 ?_; intros; rfl
  have F5 := fun_mk (st := sl_name_by) l5 c5 k5
  have b5 := F5.binds (ps := ["_law_shape", "_law_k"]) fun _ _ _ _ _ _ => by refine us_2 ?_; intros; rfl
  have F6 := fun_mk (st := sl_pool) l6 c6 k6
  have b6 := F6.binds (ps := ["_law_draws_here"]) fun _ _ _ _ _ _ => by refine us_1 ?_; intros; rfl
  have F7 := fun_mk (st := sl_called) l7 c7 k7
  have b7 := F7.binds (ps := ["_law_call", "_law_threads", "_law_index", "_law_name", "_law_bad"]) fun _ _ _ _ _ _ => by refine us_5 ?_; intros; rfl
  have F8 := fun_mk (st := sl_refused) l8 c8 k8
  have b8 := F8.binds (ps := ["_law_call", "_law_threads", "_law_index", "_law_name"]) fun _ _ _ _ _ _ => by refine us_4 ?_; intros; rfl
  have F9 := fun_mk (st := sl_due) l9 c9 k9
  have b9 := F9.binds (ps := ["_law_call", "_law_name"]) fun _ _ _ _ _ _ => by refine us_2 ?_; intros; rfl
  have F10 := fun_mk (st := sl_step) l10 c10 k10
  have b10 := F10.binds (ps := ["_law_call", "_law_threads", "_law_index", "_law_name", "_law_there"]) fun _ _ _ _ _ _ => by refine us_5 ?_; intros; rfl
  have F11 := fun_mk (st := slaw) l11 c11 k11
  have b11 := F11.binds (ps := ["_law_script"]) fun _ _ _ _ _ _ => by refine us_1 ?_; intros; rfl
  have F12 := fun_mk (st := sIndex_init) l12 c12 k12
  have b12 := F12.binds (ps := ["self"]) fun _ _ _ _ _ _ => by refine us_1 ?_; intros; rfl
  have F13 := fun_mk (st := sIndex_add) l13 c13 k13
  have b13 := F13.binds (ps := ["self", "name", "words"]) fun _ _ _ _ _ _ => by refine us_3 ?_; intros; rfl
  have F14 := fun_mk (st := sIndex_take_out) l14 c14 k14
  have b14 := F14.binds (ps := ["self", "name"]) fun _ _ _ _ _ _ => by refine us_2 ?_; intros; rfl
  have F15 := fun_mk (st := sIndex_having) l15 c15 k15
  have b15 := F15.binds (ps := ["self", "word"]) fun _ _ _ _ _ _ => by refine us_2 ?_; intros; rfl
  have F16 := fun_mk (st := sIndex_words) l16 c16 k16
  have b16 := F16.binds (ps := ["self", "name"]) fun _ _ _ _ _ _ => by refine us_2 ?_; intros; rfl
  have F17 := fun_mk (st := sIndex_all_words) l17 c17 k17
  have b17 := F17.binds (ps := ["self"]) fun _ _ _ _ _ _ => by refine us_1 ?_; intros; rfl
  have F18 := fun_mk (st := sThreads_init) l18 c18 k18
  have b18 := F18.binds (ps := ["self"]) fun _ _ _ _ _ _ => by refine us_1 ?_; intros; rfl
  have F19 := fun_mkD (st := sThreads_add) l19 c19 k19
  have b19_0 : Binds K (PySem.W.fnOf "add" "Threads.add" (defArgs sThreads_add) (defBody sThreads_add) (defScope sThreads_add) (.ref D19) kV19 dc19 pm19 an19 cd19 ct19) ["self", "name", "answers"] [dv19_0] := fun s us X' hl => have hl' : us.length = 2 := (by simpa using hl); (by clear hl; revert hl'; revert us; refine us_2 ?_; intros; exact PySem.W.binds_K (fd := PySem.W.fnOf "add" "Threads.add" (defArgs sThreads_add) (defBody sThreads_add) (defScope sThreads_add) (.ref D19) kV19 dc19 pm19 an19 cd19 ct19) X' rfl t19 rfl rfl rfl)
  have b19_1 : Binds K (PySem.W.fnOf "add" "Threads.add" (defArgs sThreads_add) (defBody sThreads_add) (defScope sThreads_add) (.ref D19) kV19 dc19 pm19 an19 cd19 ct19) ["self", "name", "answers"] [] := fun s us X' hl => have hl' : us.length = 3 := (by simpa using hl); (by clear hl; revert hl'; revert us; refine us_3 ?_; intros; exact PySem.W.binds_K (fd := PySem.W.fnOf "add" "Threads.add" (defArgs sThreads_add) (defBody sThreads_add) (defScope sThreads_add) (.ref D19) kV19 dc19 pm19 an19 cd19 ct19) X' rfl t19 rfl rfl rfl)
  have F20 := fun_mk (st := sThreads_take_out) l20 c20 k20
  have b20 := F20.binds (ps := ["self", "name"]) fun _ _ _ _ _ _ => by refine us_2 ?_; intros; rfl
  have F21 := fun_mk (st := sThreads_names) l21 c21 k21
  have b21 := F21.binds (ps := ["self"]) fun _ _ _ _ _ _ => by refine us_1 ?_; intros; rfl
  have F22 := fun_mk (st := sThreads_answers_to) l22 c22 k22
  have b22 := F22.binds (ps := ["self", "name"]) fun _ _ _ _ _ _ => by refine us_2 ?_; intros; rfl
  have F23 := fun_mk (st := sThreads_beside) l23 c23 k23
  have b23 := F23.binds (ps := ["self", "name"]) fun _ _ _ _ _ _ => by refine us_2 ?_; intros; rfl
  have F24 := fun_mk (st := sThreads_thread) l24 c24 k24
  have b24 := F24.binds (ps := ["self", "name"]) fun _ _ _ _ _ _ => by refine us_2 ?_; intros; rfl
  have F25 := fun_mk (st := sThreads_threads) l25 c25 k25
  have b25 := F25.binds (ps := ["self"]) fun _ _ _ _ _ _ => by refine us_1 ?_; intros; rfl
  have F26 := fun_mk (st := sThreads_depth) l26 c26 k26
  have b26 := F26.binds (ps := ["self", "name"]) fun _ _ _ _ _ _ => by refine us_2 ?_; intros; rfl
  let A : Adr := { f_wall := f1, f_check_there := f2, f_check_new := f3, f_l_draws := f4, f_l_name_by := f5, f_l_pool := f6, f_l_called := f7, f_l_refused := f8, f_l_due := f9, f_l_step := f10, f_law := fa, f_Index_init := f12, f_Index_add := f13, f_Index_take_out := f14, f_Index_having := f15, f_Index_words := f16, f_Index_all_words := f17, f_Threads_init := f18, f_Threads_add := f19, f_Threads_take_out := f20, f_Threads_names := f21, f_Threads_answers_to := f22, f_Threads_beside := f23, f_Threads_thread := f24, f_Threads_threads := f25, f_Threads_depth := f26, C_Index := C_Index, C_Threads := C_Threads, C_MailError := C_MailError, C_NoName := C_NoName, C_NoWord := C_NoWord, C_NoLetter := C_NoLetter, C_NoRule := C_NoRule, C_NoParcel := C_NoParcel, C_NoRow := C_NoRow }
  have T : Txt K mg A := ⟨PySem.W.mg_of X G a1, PySem.W.mg_of X G a2, PySem.W.mg_of X G a3, PySem.W.mg_of X G a4, PySem.W.mg_of X G a5, PySem.W.mg_of X G a6, PySem.W.mg_of X G a7, PySem.W.mg_of X G a8, PySem.W.mg_of X G a9, PySem.W.mg_of X G a10, PySem.W.mg_of X G a11, PySem.W.mg_none_of X G z1, PySem.W.mg_none_of X G z2, PySem.W.mg_none_of X G z3, PySem.W.mg_none_of X G z4, PySem.W.mg_none_of X G z5, PySem.W.mg_none_of X G z6, PySem.W.mg_none_of X G z7, PySem.W.mg_none_of X G z8, PySem.W.mg_none_of X G z9, PySem.W.mg_of X G q_Index, ⟨pg_Index, hd_Index, po_Index, sa_Index⟩, ⟨mk_Index, a12, i12, kc_Index⟩, ⟨a13, i13, k13⟩, ⟨a14, i14, k14⟩, ⟨a15, i15, k15⟩, ⟨a16, i16, k16⟩, ⟨a17, i17, k17⟩, n_Index_entries, n_Index_bearers, PySem.W.mg_of X G q_Threads, ⟨pg_Threads, hd_Threads, po_Threads, sa_Threads⟩, ⟨mk_Threads, a18, i18, kc_Threads⟩, ⟨a19, i19, k19⟩, ⟨a20, i20, k20⟩, ⟨a21, i21, k21⟩, ⟨a22, i22, k22⟩, ⟨a23, i23, k23⟩, ⟨a24, i24, k24⟩, ⟨a25, i25, k25⟩, ⟨a26, i26, k26⟩, n_Threads_links, n_Threads_replies, PySem.W.mg_of X G q_MailError, ⟨x_MailError⟩, PySem.W.mg_of X G q_NoName, ⟨x_NoName⟩, mro_of s_NoName_MailError, PySem.W.mg_of X G q_NoWord, PySem.W.mg_of X G q_NoLetter, PySem.W.mg_of X G q_NoRule, PySem.W.mg_of X G q_NoParcel, PySem.W.mg_of X G q_NoRow, ⟨xga_NoName, xgt_NoName, xcl_NoName, xca_NoName, gx_hn, gx_tk, xmo_NoName, xmb_NoName⟩, ki_NoName_NoWord, ki_NoName_NoLetter, ki_NoName_NoRule, ki_NoName_NoName, ki_NoName_ValueError, ki_NoName_NoParcel, ki_NoName_NoRow, PySem.W.mg_none_of X G zVE, trivial⟩
  have FF : Funs K A := ⟨⟨_, F1, b1⟩, ⟨_, F2, b2⟩, ⟨_, F3, b3⟩, ⟨_, F4, b4⟩, ⟨_, F5, b5⟩, ⟨_, F6, b6⟩, ⟨_, F7, b7⟩, ⟨_, F8, b8⟩, ⟨_, F9, b9⟩, ⟨_, F10, b10⟩, ⟨_, F11, b11⟩, ⟨_, F12, b12⟩, ⟨_, F13, b13⟩, ⟨_, F14, b14⟩, ⟨_, F15, b15⟩, ⟨_, F16, b16⟩, ⟨_, F17, b17⟩, ⟨_, F18, b18⟩, ⟨_, F19, b19_1, ⟨_, (.cons rd19_0 .nil), b19_0⟩⟩, ⟨_, F20, b20⟩, ⟨_, F21, b21⟩, ⟨_, F22, b22⟩, ⟨_, F23, b23⟩, ⟨_, F24, b24⟩, ⟨_, F25, b25⟩, ⟨_, F26, b26⟩⟩
  exact ⟨PySem.W.fnOf "law" "law" (defArgs slaw) (defBody slaw) (defScope slaw) .none kV11 dc11 pm11 an11 cd11 ct11, fun s v => .of_eq rfl, fun base _ _ => ok_law F11 T FF⟩
theorem walk {l : PySem.W.OpenLaw} {q : Program} {loose : List Str} {XP : (Str → Option Value) → Heap → Prop} {YP : World → Heap → Prop} {d : DefRec} {K : Params → PySem.W.Frag} (hn : l.most = some 63) (hdf : d.params.defaults = [])
    (hY : ∀ (w : World) (h : Heap), YP w h → (K w.params).In h)
    (F : ∀ (w : World) (mg : Str → Option Value) (fa : Addr) (h : Heap), (K w.params).In h → h.Ns mainGlobals mg → mg d.name = some (.ref fa) →
      ∃ fd : FuncData, (∀ (s : Shared) (u : Value), BindsTo s fd ⟨[u], []⟩ [("_law_script", u)]) ∧ ∀ base : Heap, (K w.params).In base → base.Ns mainGlobals mg → FnOk l.prog w (K w.params) mg base CX0 14 fa fd ["_law_script"] (spLaw (K w.params))) :
    PySem.W.WalkO q loose XP YP l.row.toRowW d [] (fun f vs => PySem.call f vs) :=
  L2.walk_of (n := 63) (k := 14) (x := "_law_script") (CX := fun _ => CX0) (sp := fun w => spLaw (K w.params)) hn (by decide) hdf ⟨rfl, by decide, by decide, rfl⟩ hY F (fun _ _ a ns hl _ hS => ⟨a, ns, rfl, hS, hl, fun _ => rfl⟩) fun _ _ _ _ _ z => z
end K24
open PySem PySem.W PyProof.Rows
set_option maxRecDepth 100000 in
set_option maxHeartbeats 0 in
theorem PySem.Challenge.cw_mailroom_k24_there_or_not_holds : PySem.Challenge.rw_mailroom_k24_there_or_not.Holds := by
  w_on; o_law; k_head; (case hw => w_witness2)
  k_fill
  refine K24.walk (l := PySem.Challenge.rw_mailroom_k24_there_or_not) rfl rfl (fun w h Y => PySem.W.kIn_of Y) ?F
  case F =>
    intro w mg fa h KX G hmg
    refine' K24.all_mk KX G hmg ?q_Index ?q_Threads ?q_MailError ?q_NoName ?q_NoWord ?q_NoLetter ?q_NoRule ?q_NoParcel ?q_NoRow ?a1 ?l1 ?c1 ?k1 ?a2 ?l2 ?c2 ?k2 ?a3 ?l3 ?c3 ?k3 ?a4 ?l4 ?c4 ?k4 ?a5 ?l5 ?c5 ?k5 ?a6 ?l6 ?c6 ?k6 ?a7 ?l7 ?c7 ?k7 ?a8 ?l8 ?c8 ?k8 ?a9 ?l9 ?c9 ?k9 ?a10 ?l10 ?c10 ?k10 ?a11 ?l11 ?c11 ?k11 ?a12 ?i12 ?l12 ?c12 ?k12 ?a13 ?i13 ?l13 ?c13 ?k13 ?a14 ?i14 ?l14 ?c14 ?k14 ?a15 ?i15 ?l15 ?c15 ?k15 ?a16 ?i16 ?l16 ?c16 ?k16 ?a17 ?i17 ?l17 ?c17 ?k17 ?a18 ?i18 ?l18 ?c18 ?k18 ?a19 ?i19 ?l19 ?t19 ?rd19_0 ?c19 ?k19 ?a20 ?i20 ?l20 ?c20 ?k20 ?a21 ?i21 ?l21 ?c21 ?k21 ?a22 ?i22 ?l22 ?c22 ?k22 ?a23 ?i23 ?l23 ?c23 ?k23 ?a24 ?i24 ?l24 ?c24 ?k24 ?a25 ?i25 ?l25 ?c25 ?k25 ?a26 ?i26 ?l26 ?c26 ?k26 ?pg_Index ?hd_Index ?po_Index ?sa_Index ?kc_Index ?mk_Index ?n_Index_entries ?n_Index_bearers ?pg_Threads ?hd_Threads ?po_Threads ?sa_Threads ?kc_Threads ?mk_Threads ?n_Threads_links ?n_Threads_replies ?x_MailError ?x_NoName ?s_NoName_MailError ?gx_hn ?gx_tk ?xga_NoName ?xgt_NoName ?xcl_NoName ?xca_NoName ?xmo_NoName ?xmb_NoName ?ki_NoName_NoWord ?ki_NoName_NoLetter ?ki_NoName_NoRule ?ki_NoName_NoName ?ki_NoName_ValueError ?ki_NoName_NoParcel ?ki_NoName_NoRow ?zVE ?z1 ?z2 ?z3 ?z4 ?z5 ?z6 ?z7 ?z8 ?z9
    (case q_Index => k_is)
    (case q_Threads => k_is)
    (case q_MailError => k_is)
    (case q_NoName => k_is)
    (case q_NoWord => k_is)
    (case q_NoLetter => k_is)
    (case q_NoRule => k_is)
    (case q_NoParcel => k_is)
    (case q_NoRow => k_is)
    (case a1 => k_is)
    (case l1 => k_is)
    (case c1 => k_is)
    (case k1 => k_is)
    (case a2 => k_is)
    (case l2 => k_is)
    (case c2 => k_is)
    (case k2 => k_is)
    (case a3 => k_is)
    (case l3 => k_is)
    (case c3 => k_is)
    (case k3 => k_is)
    (case a4 => k_is)
    (case l4 => k_is)
    (case c4 => k_is)
    (case k4 => k_is)
    (case a5 => k_is)
    (case l5 => k_is)
    (case c5 => k_is)
    (case k5 => k_is)
    (case a6 => k_is)
    (case l6 => k_is)
    (case c6 => k_is)
    (case k6 => k_is)
    (case a7 => k_is)
    (case l7 => k_is)
    (case c7 => k_is)
    (case k7 => k_is)
    (case a8 => k_is)
    (case l8 => k_is)
    (case c8 => k_is)
    (case k8 => k_is)
    (case a9 => k_is)
    (case l9 => k_is)
    (case c9 => k_is)
    (case k9 => k_is)
    (case a10 => k_is)
    (case l10 => k_is)
    (case c10 => k_is)
    (case k10 => k_is)
    (case a11 => k_is)
    (case l11 => k_is)
    (case c11 => k_is)
    (case k11 => k_is)
    (case a12 => k_is)
    (case i12 => k_is)
    (case l12 => k_is)
    (case c12 => k_is)
    (case k12 => k_is)
    (case a13 => k_is)
    (case i13 => k_is)
    (case l13 => k_is)
    (case c13 => k_is)
    (case k13 => k_is)
    (case a14 => k_is)
    (case i14 => k_is)
    (case l14 => k_is)
    (case c14 => k_is)
    (case k14 => k_is)
    (case a15 => k_is)
    (case i15 => k_is)
    (case l15 => k_is)
    (case c15 => k_is)
    (case k15 => k_is)
    (case a16 => k_is)
    (case i16 => k_is)
    (case l16 => k_is)
    (case c16 => k_is)
    (case k16 => k_is)
    (case a17 => k_is)
    (case i17 => k_is)
    (case l17 => k_is)
    (case c17 => k_is)
    (case k17 => k_is)
    (case a18 => k_is)
    (case i18 => k_is)
    (case l18 => k_is)
    (case c18 => k_is)
    (case k18 => k_is)
    (case a19 => k_is)
    (case i19 => k_is)
    (case l19 => k_is)
    (case t19 => k_is)
    (case rd19_0 => exact ⟨_, rfl⟩)
    (case c19 => k_is)
    (case k19 => k_is)
    (case a20 => k_is)
    (case i20 => k_is)
    (case l20 => k_is)
    (case c20 => k_is)
    (case k20 => k_is)
    (case a21 => k_is)
    (case i21 => k_is)
    (case l21 => k_is)
    (case c21 => k_is)
    (case k21 => k_is)
    (case a22 => k_is)
    (case i22 => k_is)
    (case l22 => k_is)
    (case c22 => k_is)
    (case k22 => k_is)
    (case a23 => k_is)
    (case i23 => k_is)
    (case l23 => k_is)
    (case c23 => k_is)
    (case k23 => k_is)
    (case a24 => k_is)
    (case i24 => k_is)
    (case l24 => k_is)
    (case c24 => k_is)
    (case k24 => k_is)
    (case a25 => k_is)
    (case i25 => k_is)
    (case l25 => k_is)
    (case c25 => k_is)
    (case k25 => k_is)
    (case a26 => k_is)
    (case i26 => k_is)
    (case l26 => k_is)
    (case c26 => k_is)
    (case k26 => k_is)
    (case pg_Index => k_is)
    (case hd_Index => k_is)
    (case po_Index => k_is)
    (case sa_Index => k_is)
    (case kc_Index => k_is)
    (case mk_Index => k_is)
    (case n_Index_entries => k_is)
    (case n_Index_bearers => k_is)
    (case pg_Threads => k_is)
    (case hd_Threads => k_is)
    (case po_Threads => k_is)
    (case sa_Threads => k_is)
    (case kc_Threads => k_is)
    (case mk_Threads => k_is)
    (case n_Threads_links => k_is)
    (case n_Threads_replies => k_is)
    (case x_MailError => k_exc)
    (case x_NoName => k_exc)
    (case s_NoName_MailError => k_is)
    (case gx_hn => k_is)
    (case gx_tk => k_is)
    (case xga_NoName => k_is)
    (case xgt_NoName => k_is)
    (case xcl_NoName => k_is)
    (case xca_NoName => k_is)
    (case xmo_NoName => k_is)
    (case xmb_NoName => k_is)
    (case ki_NoName_NoWord => kit_is)
    (case ki_NoName_NoLetter => kit_is)
    (case ki_NoName_NoRule => kit_is)
    (case ki_NoName_NoName => kit_is)
    (case ki_NoName_ValueError => kit_is)
    (case ki_NoName_NoParcel => kit_is)
    (case ki_NoName_NoRow => kit_is)
    (case zVE => k_is)
    (case z1 => k_is)
    (case z2 => k_is)
    (case z3 => k_is)
    (case z4 => k_is)
    (case z5 => k_is)
    (case z6 => k_is)
    (case z7 => k_is)
    (case z8 => k_is)
    (case z9 => k_is)
#print axioms PySem.Challenge.cw_mailroom_k24_there_or_not_holds
