import PyProof.Rows.All
import Wide.All
import OpenK.AllK
import Wide.FinOn
import Lean
import PyProof.EqAt
import PyProof.EqKinds
import PyProof.TupleCall
import PySem.Challenge.RW_spareline_k06_nets_shown_and_read
set_option Elab.async false
set_option linter.all false
set_option maxRecDepth 100000
/-! THE HAND LAYER, for ints, bools, texts, own classes, LISTS and tuples (index, slices, in, append, pop ..), calls, loops. Paste it whole ahead of your own text; what your proof does not reach may be deleted. -/
namespace L2
open PySem PySem.Spec PyProof.Rows

/-- a key: an int or a str -/
abbrev Key := Sum Int Str
def keyIs : Key → Value → Bool
  | .inl k, v => Value.isInt k v
  | .inr x, v => Value.isStrOf x v
def keyH (w : World) : Key → Int
  | .inl k => hashInt k
  | .inr x => hashStr w x
theorem keyIs_shape : ∀ {k : Key} {v : Value}, keyIs k v = true → (∃ i t, k = Sum.inl i ∧ v = Value.int i t) ∨ (∃ x t, k = Sum.inr x ∧ v = Value.str x t)
  | .inl i, v, h => by
    obtain ⟨t, e⟩ := Value.isInt_shape (k := i) (v := v) h
    exact .inl ⟨i, t, rfl, e⟩
  | .inr x, v, h => by
    obtain ⟨t, e⟩ := Value.isStrOf_shape (x := x) (v := v) h
    exact .inr ⟨x, t, rfl, e⟩
theorem keyIs_int (i : Int) (t : Tok) : keyIs (.inl i) (.int i t) = true := by simp [keyIs, Value.isInt]
theorem keyIs_str (x : Str) (t : Tok) : keyIs (.inr x) (.str x t) = true := by simp [keyIs, Value.isStrOf]
theorem key_ll (a b : Int) : decide ((Sum.inl a : Key) = Sum.inl b) = (a == b) := by
  by_cases e : a = b
  · subst e; simp
  · have h : ¬ (Sum.inl a : Key) = Sum.inl b := fun q => e (Sum.inl.inj q)
    rw [decide_eq_false h]
    exact (beq_eq_false_iff_ne.mpr e).symm
theorem key_rr (a b : Str) : decide ((Sum.inr a : Key) = Sum.inr b) = decide (a = b) := by
  by_cases e : a = b
  · subst e; simp
  · have h : ¬ (Sum.inr a : Key) = Sum.inr b := fun q => e (Sum.inr.inj q)
    rw [decide_eq_false h, decide_eq_false e]
theorem key_lr (a : Int) (b : Str) : decide ((Sum.inl a : Key) = Sum.inr b) = false := decide_eq_false (fun q => nomatch q)
theorem key_rl (a : Str) (b : Int) : decide ((Sum.inr a : Key) = Sum.inl b) = false := decide_eq_false (fun q => nomatch q)

def mixKind (prog : Program) (w : World) : PySem.KeyKind prog w Key where
  is := keyIs
  hash := keyH w
  inj := fun v a b ha hb => by
    rcases keyIs_shape ha with ⟨i, t, rfl, rfl⟩ | ⟨x, t, rfl, rfl⟩
    · rcases keyIs_shape hb with ⟨j, u, rfl, e⟩ | ⟨y, u, rfl, e⟩
      · injection e with e1 _; rw [e1]
      · exact nomatch e
    · rcases keyIs_shape hb with ⟨j, u, rfl, e⟩ | ⟨y, u, rfl, e⟩
      · exact nomatch e
      · injection e with e1 _; rw [e1]
  byValue := fun k v h => by
    rcases keyIs_shape h with ⟨i, t, rfl, rfl⟩ | ⟨x, t, rfl, rfl⟩ <;> rfl
  pyHash := fun hv h => by
    rcases keyIs_shape hv with ⟨i, t, rfl, rfl⟩ | ⟨x, t, rfl, rfl⟩
    · exact wpAny_pyHash_int h
    · exact wpAny_pyHash_str h
  eqBool := fun hu hv h => by
    rcases keyIs_shape hu with ⟨i, t, rfl, rfl⟩ | ⟨x, t, rfl, rfl⟩
    · rcases keyIs_shape hv with ⟨j, u, rfl, rfl⟩ | ⟨y, u, rfl, rfl⟩
      · rw [key_ll] at h; exact wpAny_eqBool_int h
      · rw [key_lr] at h; exact SeqAt.EqAt.int_str i t y u _ _ _ _ h
    · rcases keyIs_shape hv with ⟨j, u, rfl, rfl⟩ | ⟨y, u, rfl, rfl⟩
      · rw [key_rl] at h; exact SeqAt.EqAt.str_int x t j u _ _ _ _ h
      · rw [key_rr] at h; exact wpAny_eqBool_str h
  «strs» := fun k x t v h => by
    rcases keyIs_shape h with ⟨i, u, rfl, e⟩ | ⟨y, u, rfl, e⟩
    · exact nomatch e
    · injection e with e1 _
      subst e1
      cases v <;> rfl

theorem mixKind_int (prog : Program) (w : World) (i : Int) (t : Tok) : (mixKind prog w).is (.inl i) (.int i t) = true := keyIs_int i t
theorem mixKind_str (prog : Program) (w : World) (x : Str) (t : Tok) : (mixKind prog w).is (.inr x) (.str x t) = true := keyIs_str x t
end L2

namespace L2
open PySem PySem.Spec PyProof.Rows

/-- a value, without the heap -/
inductive V where
  | non | bl (b : Bool) | int (i : Int) | str (x : Str) | byt (b : Array UInt8) | flt (b : UInt64) | ref (a : Addr) | ty (n : String)
  deriving DecidableEq

def RelV : V → Value → Prop
  | .non, u => u = Value.none
  | .bl b, u => u = Value.bool b
  | .int i, u => ∃ t, u = Value.int i t
  | .str x, u => ∃ t, u = Value.str x t
  | .byt b, u => ∃ t, u = Value.bytes b t
  | .flt b, u => ∃ t, u = Value.float b t
  | .ref a, u => u = Value.ref a
  | .ty n, u => u = Value.type n

abbrev Vals : List V → List Value → Prop := Paired RelV
theorem Vals.length {xs : List V} {us : List Value} (r : Vals xs us) : xs.length = us.length := Paired.length r
theorem Vals.get : ∀ {xs : List V} {us : List Value} {i : Nat} {x : V}, Vals xs us → xs[i]? = some x → ∃ u, us[i]? = some u ∧ RelV x u
  | _, _, _, _, .nil, e => by simp at e
  | _, _, 0, _, .cons r _, e => by simp at e; subst e; exact ⟨_, rfl, r⟩
  | _, _, i + 1, x, .cons _ t, e => by
    obtain ⟨u, h1, h2⟩ := Vals.get (i := i) (x := x) t (by simpa using e)
    exact ⟨u, by simpa using h1, h2⟩
theorem Vals.set {x : V} {u : Value} (r : RelV x u) : ∀ {xs : List V} {us : List Value} (i : Nat), Vals xs us → Vals (xs.set i x) (us.set i u)
  | _, _, _, .nil => .nil
  | _, _, 0, .cons _ t => .cons r t
  | _, _, i + 1, .cons q t => .cons q (Vals.set r i t)
theorem Vals.append : ∀ {xs ys : List V} {us ws : List Value}, Vals xs us → Vals ys ws → Vals (xs ++ ys) (us ++ ws)
  | _, _, _, _, .nil, s => s
  | _, _, _, _, .cons r t, s => .cons r (Vals.append t s)
theorem Vals.take : ∀ {xs : List V} {us : List Value} (n : Nat), Vals xs us → Vals (xs.take n) (us.take n)
  | _, _, 0, _ => .nil
  | _, _, _ + 1, .nil => .nil
  | _, _, n + 1, .cons r t => .cons r (Vals.take n t)
theorem Vals.drop : ∀ {xs : List V} {us : List Value} (n : Nat), Vals xs us → Vals (xs.drop n) (us.drop n)
  | _, _, 0, r => r
  | _, _, _ + 1, .nil => .nil
  | _, _, n + 1, .cons _ t => Vals.drop n t

def RelO : Option V → Option Value → Prop
  | some v, some u => RelV v u
  | none, none => True
  | _, _ => False
def KV {κ : Type} : List (κ × V) → List (κ × Value) → Prop := Paired fun (p : κ × V) (q : κ × Value) => p.1 = q.1 ∧ RelV p.2 q.2

/-- a key of a dict (00_mix): an int or a text -/
def kV : Key → V
  | .inl i => .int i
  | .inr x => .str x

/-- what stands at a tracked address -/
inductive HO where
  /-- a list -/
  | lst (xs : List V)
  /-- a tuple (never changes) -/
  | tup (xs : List V)
  /-- a dict whose keys are ints and texts; one whose keys are tuples of ints and texts (the empty one is both) -/
  | dK (kvs : List (Key × V)) | dT (kvs : List (List Key × V))
  /-- a set of ints: its members, its size -/
  | set (S : Int → Bool) (n : Nat)
  /-- an instance of the class at C, its dict at dx, its attributes -/
  | ins (C dx : Addr) (fs : List (Str × V))
  /-- the dict of the instance at x -/
  | own (x : Addr)
  /-- the dict of an exception -/
  | xd (fs : List (Str × V))
  /-- a bound method, f of x -/
  | met (f x : Addr)
  /-- a range object lo, lo + 1, .. below hi -/
  | rng (lo hi : Int)
  /-- a thing that is known to the object (the script; a dict while a loop walks it): read, never written while it is so -/
  | frz (o : Obj) (u : HO)
  /-- a code object's table -/
  | tbl (ps : Array Value)
  /-- any other thing, by what is true of its one object (a def of one's own: SetO a S n := HO.ext fun h => ..) -/
  | ext (φ : Heap → Prop)

abbrev Hp := Addr → Option HO
def upd (H : Hp) (a : Addr) (o : HO) : Hp := fun b => if b = a then some o else H b
theorem upd_same {H : Hp} {a : Addr} {o : HO} : upd H a o a = some o := by unfold upd; rw [if_pos rfl]
theorem upd_ne {H : Hp} {a b : Addr} {o : HO} (h : b ≠ a) : upd H a o b = H b := by unfold upd; rw [if_neg h]
/-- two objects of different content stand apart -/
theorem ne_of {H : Hp} {a b : Addr} {o u : HO} (h : H a = some o) (h' : H b = some u) (d : o ≠ u) : a ≠ b := by
  intro e; subst e; rw [h] at h'; exact d (Option.some.inj h')
theorem ne_of_none {H : Hp} {a b : Addr} {o : HO} (h : H a = some o) (h' : H b = none) : a ≠ b := by
  intro e; subst e; rw [h] at h'; cases h'

section
variable (P : Program) (w : World)
def ObjOk (H : Hp) (h : Heap) (a : Addr) : HO → Prop
  | .lst xs => xs.length ≤ sizeLine ∧ ∃ (its : List Value) (n : Nat), Vals xs its ∧ h.get? a = some { cls := .type "list", data := .seq its.toArray n }
  | .tup xs => xs.length ≤ sizeLine ∧ ∃ its : List Value, Vals xs its ∧ IsTup h a its.toArray
  | .dK kvs => kvs.length ≤ sizeLine ∧ (a == sysModules) = false ∧ ∃ vs, KV kvs vs ∧ h.DictOf (mixKind P w) a vs
  | .dT kvs => kvs.length ≤ sizeLine ∧ (a == sysModules) = false ∧ ∃ xs : List (List Key × Addr × Value),
      Paired (fun (p : List Key × V) (q : List Key × Addr × Value) => p.1 = q.1 ∧ H q.2.1 = some (.tup (p.1.map kV)) ∧ RelV p.2 q.2.2) kvs xs ∧
      ∃ o es ep, h.get? a = some o ∧ o.ExactDict ∧ o.data = .dict es ep ∧ es.toList = xs.map (entryOfKey (tupleKind (mixKind P w))) ∧ (xs.map (·.1)).Nodup
  | .set S n => h.SetOf (intKind P w) a S n
  | .ins C dx fs => H dx = some (.own a) ∧ fs.length ≤ 1000 ∧ dx ≠ a ∧ h.get? a = some (PySem.W.instObj C dx) ∧
      ∃ mA, h.Ns1 dx mA ∧ (∀ f, RelO (fs.lookup f) (mA f)) ∧ PySem.Within mA (fs.map (·.1))
  | .own _ => ∃ o, h.get? a = some o
  | .xd fs => ∃ mA, h.Ns1 a mA ∧ ∀ f, RelO (fs.lookup f) (mA f)
  | .rng lo hi => ∃ t u v, h.get? a = some { cls := .type "range", data := .fields #[.int lo t, .int hi u, .int 1 v] }
  | .frz o u => h.get? a = some o ∧ ObjOk H h a u
  | .tbl ps => h.get? a = some { cls := .none, data := .fields ps }
  | .met f x => h.get? a = some (PySem.W.methodObj (.ref f) (.ref x))
  | .ext φ => φ h ∧ (∃ o, h.get? a = some o) ∧ ∀ h1 h2 : Heap, φ h1 → (∀ o, h1.get? a = some o → h2.get? a = some o) → φ h2
/-- the abstract heap is held -/
def HOk (H : Hp) (h : Heap) : Prop := ∀ a o, H a = some o → ObjOk P w H h a o
end

section
variable {P : Program} {w : World} {H H' : Hp} {h h' : Heap} {a : Addr} {o : HO}
theorem ObjOk.lt (x : ObjOk P w H h a o) : a < h.objs.size := by
  cases o with
  | lst xs => obtain ⟨_, _, _, _, e⟩ := x; exact Heap.lt_size e
  | tup xs => obtain ⟨_, _, _, p⟩ := x; exact p.lt
  | dK kvs => obtain ⟨_, _, _, _, o, _, _, e, _⟩ := x; exact Heap.lt_size e
  | dT kvs => obtain ⟨_, _, _, _, o, _, _, e, _⟩ := x; exact Heap.lt_size e
  | set S n => obtain ⟨o, _, _, _, e, _⟩ := x; exact Heap.lt_size e
  | ins C dx fs => obtain ⟨_, _, _, e, _⟩ := x; exact Heap.lt_size e
  | own y => obtain ⟨_, e⟩ := x; exact Heap.lt_size e
  | xd fs => obtain ⟨_, ⟨_, _, _, e, _⟩, _⟩ := x; exact Heap.lt_size e
  | rng lo hi => obtain ⟨_, _, _, e⟩ := x; exact Heap.lt_size e
  | frz ob u => obtain ⟨e, _⟩ := x; exact Heap.lt_size e
  | tbl ps => exact Heap.lt_size (show h.get? a = some _ from x)
  | met f y => exact Heap.lt_size (show h.get? a = some _ from x)
  | ext φ => obtain ⟨_, ⟨_, e⟩, _⟩ := x; exact Heap.lt_size e
theorem Paired.mapP {α β : Type} {F G : α → β → Prop} : ∀ {l₁ : List α} {l₂ : List β}, Paired F l₁ l₂ → (∀ a b, F a b → G a b) → Paired G l₁ l₂
  | _, _, .nil, _ => .nil
  | _, _, .cons r t, f => .cons (f _ _ r) (Paired.mapP t f)
/-- what an object's description leans on: its own object, its own dict, the tuples -/
theorem ObjOk.stay (x : ObjOk P w H h a o) (k : ∀ b u, (b = a ∨ H b = some (.own a)) → h.get? b = some u → h'.get? b = some u)
    (ho : ∀ b, H b = some (.own a) → H' b = some (.own a)) (ht : ∀ b xs, H b = some (.tup xs) → H' b = some (.tup xs)) : ObjOk P w H' h' a o := by
  induction o with
  | lst xs => obtain ⟨z, its, n, r, e⟩ := x; exact ⟨z, its, n, r, k _ _ (.inl rfl) e⟩
  | tup xs => obtain ⟨z, its, r, ob, e, c⟩ := x; exact ⟨z, its, r, ob, k _ _ (.inl rfl) e, c⟩
  | dK kvs => obtain ⟨z, y, vs, r, ob, es, ep, e, c⟩ := x; exact ⟨z, y, vs, r, ob, es, ep, k _ _ (.inl rfl) e, c⟩
  | dT kvs =>
    obtain ⟨z, y, xs, r, ob, es, ep, e, c⟩ := x
    exact ⟨z, y, xs, Paired.mapP r fun p q z => ⟨z.1, ht _ _ z.2.1, z.2.2⟩, ob, es, ep, k _ _ (.inl rfl) e, c⟩
  | set S n => obtain ⟨ob, es, ep, t, e, c⟩ := x; exact ⟨ob, es, ep, t, k _ _ (.inl rfl) e, c⟩
  | ins C dx fs =>
    obtain ⟨d, z, ne, e, mA, ⟨od, es, ep, e2, c⟩, r⟩ := x
    exact ⟨ho _ d, z, ne, k _ _ (.inl rfl) e, mA, ⟨od, es, ep, k _ _ (.inr d) e2, c⟩, r⟩
  | own y => obtain ⟨ob, e⟩ := x; exact ⟨ob, k _ _ (.inl rfl) e⟩
  | xd fs => obtain ⟨mA, ⟨od, es, ep, e, c⟩, r⟩ := x; exact ⟨mA, ⟨od, es, ep, k _ _ (.inl rfl) e, c⟩, r⟩
  | rng lo hi => obtain ⟨t, u, v, e⟩ := x; exact ⟨t, u, v, k _ _ (.inl rfl) e⟩
  | frz ob u ih => obtain ⟨e, q⟩ := x; exact ⟨k _ _ (.inl rfl) e, ih q⟩
  | tbl ps =>
    have e : h.get? a = some { cls := .none, data := .fields ps } := x
    show h'.get? a = some { cls := .none, data := .fields ps }
    exact k a _ (.inl rfl) e
  | met f y =>
    have e : h.get? a = some (PySem.W.methodObj (.ref f) (.ref y)) := x
    show h'.get? a = some (PySem.W.methodObj (.ref f) (.ref y))
    exact k a _ (.inl rfl) e
  | ext φ => obtain ⟨p, ⟨o, e⟩, st⟩ := x; exact ⟨st _ _ p fun o q => k _ _ (.inl rfl) q, ⟨o, k _ _ (.inl rfl) e⟩, st⟩
theorem HOk.lt (x : HOk P w H h) (e : H a = some o) : a < h.objs.size := (x a o e).lt
theorem HOk.fresh (x : HOk P w H h) (e : h.objs.size ≤ a) : H a = none := by
  cases q : H a with
  | none => rfl
  | some u => exact absurd (Nat.lt_of_lt_of_le (x.lt q) e) (Nat.lt_irrefl _)
/-- every object of the heap is kept -/
theorem HOk.kept (x : HOk P w H h) (k : ∀ b u, h.get? b = some u → h'.get? b = some u) : HOk P w H h' := fun a o e =>
  (x a o e).stay (fun b u _ q => k b u q) (fun _ q => q) fun _ _ q => q
/-- a new object is laid and tracked -/
theorem HOk.laid (x : HOk P w H h) (k : ∀ b u, h.get? b = some u → h'.get? b = some u) (hp : h.objs.size ≤ a) (new : ObjOk P w (upd H a o) h' a o) : HOk P w (upd H a o) h' := fun b u e => by
  have hn := x.fresh hp
  by_cases hb : b = a
  · subst hb; rw [upd_same] at e; cases e; exact new
  · rw [upd_ne hb] at e
    exact (x b u e).stay (fun c v _ q => k c v q) (fun c q => by rw [upd_ne (ne_of_none q hn)]; exact q) fun c xs q => by rw [upd_ne (ne_of_none q hn)]; exact q
end

/-- what may be read as u: it is u, or a known u -/
def Rd (H : Hp) (a : Addr) (u : HO) : Prop := H a = some u ∨ ∃ o, H a = some (.frz o u)
theorem Rd.of {H : Hp} {a : Addr} {u : HO} (h : H a = some u) : Rd H a u := .inl h
theorem Rd.ok {P : Program} {w : World} {H : Hp} {h : Heap} {a : Addr} {u : HO} (r : Rd H a u) (x : HOk P w H h) : ObjOk P w H h a u := by
  rcases r with r | ⟨o, r⟩
  · exact x a u r
  · obtain ⟨_, q⟩ := x a _ r
    exact q
/-- what may be written -/
def Mut : Option HO → Prop
  | some (.lst _) => True
  | some (.dK _) => True
  | some (.dT _) => True
  | some (.set _ _) => True
  | some (.ins _ _ _) => True
  | some (.ext _) => True
  | _ => False
section
variable {P : Program} {w : World} {H : Hp} {h h' : Heap} {x e : Addr} {o' : HO}
/-- the object at e is changed: x itself, or the dict of the instance x -/
theorem HOk.write (ok : HOk P w H h) (mu : Mut (H x)) (he : e = x ∨ H e = some (.own x)) (k : ∀ b u, b ≠ e → h.get? b = some u → h'.get? b = some u) (heo : ∃ u, h'.get? e = some u)
    (new : ObjOk P w (upd H x o') h' x o') : HOk P w (upd H x o') h' := fun b u q => by
  have nown : ∀ c y, H c = some (.own y) → c ≠ x := fun c y r z => by subst z; rw [r] at mu; exact mu
  have ntup : ∀ c xs, H c = some (.tup xs) → c ≠ x := fun c xs r z => by subst z; rw [r] at mu; exact mu
  by_cases hb : b = x
  · subst hb; rw [upd_same] at q; cases q; exact new
  · rw [upd_ne hb] at q
    by_cases hbe : b = e
    · have q' : H b = some (.own x) := by
        rcases he with z | z
        · exact absurd (hbe.trans z) hb
        · rw [hbe]; exact z
      rw [q] at q'; cases q'
      obtain ⟨v, hv⟩ := heo
      exact ⟨v, by rw [hbe]; exact hv⟩
    · refine (ok b u q).stay (fun c v hc r => k c v ?_ r) (fun c r => by rw [upd_ne (nown c b r)]; exact r) fun c xs r => by rw [upd_ne (ntup c xs r)]; exact r
      rcases hc with rfl | hc
      · exact hbe
      · rintro rfl
        rcases he with z | z
        · exact nown c b hc z
        · rw [hc] at z; cases z; exact hb rfl
end

/-! ### kept unless tracked; of the frames at fs (the callers') the slots may change (an exception that passes writes there); of the records at ex (iterators) nothing is said -/
structure Un (fs ex : List Addr) (H H' : Hp) (h h' : Heap) : Prop where
  keep : ∀ b o, h.get? b = some o → H b = none → b ∉ fs → b ∉ ex → h'.get? b = some o
  slot : ∀ b o, h.get? b = some o → H b = none → b ∈ fs → b ∉ ex → ∃ sl, h'.get? b = some { o with slots := sl }
  free : ∀ b o, h.get? b = some o → H b = none → b ∉ ex → H' b = none
  there : ∀ b o, h.get? b = some o → b ∉ ex → ∃ o', h'.get? b = some o'
  tups : ∀ b xs, H b = some (.tup xs) → H' b = some (.tup xs)
  frzs : ∀ b o u, H b = some (.frz o u) → H' b = some (.frz o u)
  tbls : ∀ b ps, H b = some (.tbl ps) → ∃ more, H' b = some (.tbl (ps ++ more))
section
variable {fs fs' ex ex' : List Addr} {H H1 H2 : Hp} {h h1 h2 h' : Heap} {a x e : Addr} {o : HO}
theorem Un.any (u : Un fs ex H H1 h h1) {b : Addr} {ob : Obj} (q : h.get? b = some ob) (n : H b = none) (hx : b ∉ ex) : ∃ sl, h1.get? b = some { ob with slots := sl } := by
  by_cases hb : b ∈ fs
  · exact u.slot b ob q n hb hx
  · exact ⟨ob.slots, u.keep b ob q n hb hx⟩
theorem Un.trans (a : Un fs ex H H1 h h1) (b : Un fs ex H1 H2 h1 h2) : Un fs ex H H2 h h2 where
  keep := fun c ob q n hc hx => b.keep c ob (a.keep c ob q n hc hx) (a.free c ob q n hx) hc hx
  slot := fun c ob q n hc hx => by
    obtain ⟨sl, e1⟩ := a.slot c ob q n hc hx
    obtain ⟨sl', e2⟩ := b.slot c _ e1 (a.free c ob q n hx) hc hx
    exact ⟨sl', e2⟩
  free := fun c ob q n hx => by
    obtain ⟨o', e1⟩ := a.there c ob q hx
    exact b.free c o' e1 (a.free c ob q n hx) hx
  there := fun c ob q hx => by
    obtain ⟨o', e1⟩ := a.there c ob q hx
    exact b.there c o' e1 hx
  tups := fun c xs q => b.tups c xs (a.tups c xs q)
  frzs := fun c ob xs q => b.frzs c ob xs (a.frzs c ob xs q)
  tbls := fun c ps q => by
    obtain ⟨m1, e1⟩ := a.tbls c ps q
    obtain ⟨m2, e2⟩ := b.tbls c _ e1
    exact ⟨m1 ++ m2, by rw [e2, Array.append_assoc]⟩
theorem Un.kept (k : ∀ b u, h.get? b = some u → h'.get? b = some u) : Un fs ex H H h h' :=
  ⟨fun b ob q _ _ _ => k b ob q, fun b ob q _ _ _ => ⟨ob.slots, k b ob q⟩, fun _ _ _ n _ => n, fun b ob q _ => ⟨ob, k b ob q⟩, fun _ _ q => q, fun _ _ _ q => q, fun _ ps q => ⟨#[], by rw [q]; simp⟩⟩
theorem Un.refl : Un fs ex H H h h := Un.kept fun _ _ q => q
theorem Un.laid (k : ∀ b u, h.get? b = some u → h'.get? b = some u) (hp : h.objs.size ≤ a) (hn : H a = none) : Un fs ex H (upd H a o) h h' where
  keep := fun b u q _ _ _ => k b u q
  slot := fun b u q _ _ _ => ⟨u.slots, k b u q⟩
  free := fun b u q n _ => by rw [upd_ne (Nat.ne_of_lt (Nat.lt_of_lt_of_le (Heap.lt_size q) hp))]; exact n
  there := fun b u q _ => ⟨u, k b u q⟩
  tups := fun b xs q => by rw [upd_ne (ne_of_none q hn)]; exact q
  frzs := fun b u xs q => by rw [upd_ne (ne_of_none q hn)]; exact q
  tbls := fun b ps q => ⟨#[], by rw [upd_ne (ne_of_none q hn), q]; simp⟩
theorem Un.write (mu : Mut (H x)) (he : e = x ∨ H e = some (.own x)) (k : ∀ b u, b ≠ e → h.get? b = some u → h'.get? b = some u) (heo : ∃ u, h'.get? e = some u) : Un fs ex H (upd H x o) h h' := by
  have hx : ∀ b, H b = none → b ≠ x := fun b n z => by subst z; rw [n] at mu; exact mu
  have hb : ∀ b, H b = none → b ≠ e := fun b n z => by
    subst z
    rcases he with r | r
    · exact hx b n r
    · rw [n] at r; cases r
  have hm : ∀ b u, H b = some u → ¬ Mut (some u) → b ≠ x := fun b u q nm z => by subst z; rw [q] at mu; exact nm mu
  refine ⟨fun b u q n _ _ => k b u (hb b n) q, fun b u q n _ _ => ⟨u.slots, k b u (hb b n) q⟩, fun b u q n _ => by rw [upd_ne (hx b n)]; exact n, fun b u q _ => ?_,
    fun b xs q => by rw [upd_ne (hm b _ q fun z => z)]; exact q, fun b u xs q => by rw [upd_ne (hm b _ q fun z => z)]; exact q, fun b ps q => ⟨#[], by rw [upd_ne (hm b _ q fun z => z), q]; simp⟩⟩
  by_cases hbe : b = e
  · subst hbe; exact heo
  · exact ⟨u, k b u hbe q⟩
theorem Un.mono (u : Un fs ex H H1 h h1) (hs : ∀ b ∈ fs, b ∈ fs') (hx : ∀ b ∈ ex, b ∈ ex') : Un fs' ex' H H1 h h1 :=
  ⟨fun b ob q n hb he => u.keep b ob q n (fun z => hb (hs b z)) fun z => he (hx b z), fun _ _ q n _ he => u.any q n fun z => he (hx _ z), fun b ob q n he => u.free b ob q n fun z => he (hx b z), fun b ob q he => u.there b ob q fun z => he (hx b z), u.tups, u.frzs, u.tbls⟩
end

/-! ### the heap without what is tracked -/
def trk (h : Heap) (H : Hp) : List Addr := (List.range h.objs.size).filter fun a => (H a).isSome
def hidT (h : Heap) (H : Hp) : Heap := PySem.W.hideAll h (trk h H)
theorem hidT_size (h : Heap) (H : Hp) : (hidT h H).objs.size = h.objs.size := PySem.W.hideAll_size _ _
theorem hidT_get {h : Heap} {H : Hp} {b : Addr} {o : Obj} (e : h.get? b = some o) (n : H b = none) : (hidT h H).get? b = some o :=
  PySem.W.hideAll_get _ e fun hm => by
    have q : (H b).isSome = true := (List.mem_filter.mp hm).2
    rw [n] at q; simp at q
theorem of_hidT {h : Heap} {H : Hp} {b : Addr} {o : Obj} (e : (hidT h H).get? b = some o) : h.get? b = some o ∧ H b = none := by
  have e' : h.get? b = some o := PySem.W.of_hideAll (trk h H) e
  refine ⟨e', ?_⟩
  cases q : H b with
  | none => rfl
  | some x =>
    have hm : b ∈ trk h H := List.mem_filter.mpr ⟨List.mem_range.mpr (Heap.lt_size e'), by simp [q]⟩
    have z : (hidT h H).get? b = none := PySem.W.hideAll_none (trk h H) hm
    rw [z] at e; cases e

/-! ### OpenK's ledger, filled with every new object but one -/
def allNews (g h : Heap) (L : Addr) : List (Addr × Obj) := (List.range h.objs.size).filterMap fun a => if a = L ∨ (g.get? a).isSome = true then none else (h.get? a).map fun o => (a, o)
def rest (g h : Heap) (L d : Addr) : List (Addr × Obj) := (allNews g h L).filter fun p => decide (p.1 ≠ d)
end L2

namespace L2
open PySem PySem.Spec PyProof.Rows

/-- the module's facts, over the base: the heap at the law's entry without what is tracked there -/
structure Mod (K : PySem.W.Frag) (mg : Str → Option Value) (base : Heap) : Prop where
  kin : K.In base
  glob : base.Ns mainGlobals mg
  blt : ∃ mb, base.Ns builtinsNs mb ∧ ∀ x : Str, x ≠ "__name__" → mb x = bootBuiltins x
  nolimit : base.NoLimit

/-- the context: a def's body (or a comprehension's block) running. base: fixed through the whole law; s₀, H₀: the entry; outer: the frames whose slots others may change (a def's callers); stack: all frames that run;
   ex: iterators that were made ahead of the entry and are walked here (a comprehension's); fn: the names whose cells were made at the entry (a def: all; a comprehension's block: its own); calm: not within an except suite; pn: pins that every state bears; xe: what is wanted of an exception that leaves the code -/
structure Cx where
  prog : Program
  w : World
  K : PySem.W.Frag
  mg : Str → Option Value
  base : Heap
  A : Around
  N : List Str
  s₀ : Shared
  H₀ : Hp
  env : Env
  outer : List Env
  stack : List Env
  ex : List Addr
  fn : Str → Bool
  calm : Bool
  pn : List (Addr × Obj)
  xe : Value → Shared → Prop
/-- the callers' frames -/
def frs (l : List Env) : List Addr := l.filterMap (·.frame)
abbrev Cx.fs (X : Cx) : List Addr := frs X.outer

def Vis (sc : Scope) (x : Str) : Prop := sc.names.lookup x = some .local ∨ sc.names.lookup x = some .cell ∨ sc.names.lookup x = some .free
def Loc (sc : Scope) (x : Str) : Prop := sc.names.lookup x = some .local ∨ sc.names.lookup x = some .cell
def Look (env : Env) (h : Heap) (m : Str → Option Value) (x : Str) (u : Value) : Prop :=
  (env.kindOf x = some .local ∧ m x = some u) ∨ ((env.kindOf x = some .cell ∨ env.kindOf x = some .free) ∧ ∃ c, env.cells.lookup x = some c ∧ h.IsCell c (some u))

structure Cx.Ok (X : Cx) : Prop where
  mod : Mod X.K X.mg X.base
  kind : X.env.scope.kind = .function
  glob : X.env.globals = mainGlobals
  blt : X.env.builtins = builtinsNs
  above : X.s₀.heap.objs.size ≤ X.env.locals
  inj : ∀ x y c, X.env.cells.lookup x = some c → X.env.cells.lookup y = some c → x = y
  has : ∀ x, (X.env.kindOf x = some .cell ∨ X.env.kindOf x = some .free) → ∃ c, X.env.cells.lookup x = some c
  cab : ∀ x c, X.fn x = true → X.env.cells.lookup x = some c → X.s₀.heap.objs.size ≤ c
  hd : X.calm = true → X.A.handled = none
  frames : X.A.frames = some X.stack
  stk : X.stack = X.outer ∨ (X.stack = X.env :: X.outer ∧ X.env.frame = some X.env.locals)
  exf : ∀ b ∈ X.ex, b ≠ X.env.locals ∧ ∀ x c, X.env.cells.lookup x = some c → c ≠ b
  bs : ∀ b o, X.base.get? b = some o → X.s₀.heap.get? b = some o ∧ X.H₀ b = none
  bsz : X.base.objs.size ≤ X.s₀.heap.objs.size
  noex : ∀ b o, X.base.get? b = some o → b ∉ X.ex
  exfs : ∀ b ∈ X.ex, b ∉ X.fs
  funs : X.s₀.heap.FunFrames X.base X.outer
  frf : ∀ b ∈ X.fs, X.H₀ b = none

structure Inv (X : Cx) (pins : List (Addr × Obj)) (σ : List (Option V)) (H : Hp) (s : Shared) : Prop where
  ok : X.Ok
  os : s.os = X.s₀.os
  bare : AllBare s.gens
  base : Un X.fs X.ex X.H₀ H X.s₀.heap s.heap
  loc : ∃ m, s.heap.Ns X.env.locals m ∧ ∀ (i : Nat) (x : Str) (v : V), X.N[i]? = some x → σ[i]? = some (some v) → Vis X.env.scope x → ∃ u, RelV v u ∧ Look X.env s.heap m x u
  cell : ∀ x c, X.env.cells.lookup x = some c → ∃ v, s.heap.IsCell c v
  free : H X.env.locals = none
  freeC : ∀ x c, X.env.cells.lookup x = some c → H c = none
  pin : ∀ p ∈ X.pn ++ pins, s.heap.get? p.1 = some p.2 ∧ H p.1 = none ∧ p.1 ≠ X.env.locals ∧ p.1 ∉ X.fs ∧ ∀ v, p.2.data ≠ .cell v
  hok : HOk X.prog X.w H s.heap
  len : σ.length = X.N.length

section
variable {X : Cx} {pins : List (Addr × Obj)} {σ : List (Option V)} {H H' : Hp} {s : Shared} {h' : Heap}

theorem Cx.Ok.nofr (ok : X.Ok) {b : Addr} {o : Obj} (e : X.base.get? b = some o) : b ∉ X.fs := fun hb => by
  have := (ok.funs.mem hb).1
  rw [e] at this; cases this
theorem Inv.bs (I : Inv X pins σ H s) : ∀ b o, X.base.get? b = some o → s.heap.get? b = some o ∧ H b = none := fun b o e =>
  ⟨I.base.keep b o (I.ok.bs b o e).1 (I.ok.bs b o e).2 (I.ok.nofr e) (I.ok.noex b o e), I.base.free b o (I.ok.bs b o e).1 (I.ok.bs b o e).2 (I.ok.noex b o e)⟩
theorem Inv.bk (I : Inv X pins σ H s) : ∀ b o, X.base.get? b = some o → s.heap.get? b = some o := fun b o e => (I.bs b o e).1
theorem Inv.mod (I : Inv X pins σ H s) : Mod X.K X.mg X.base := I.ok.mod
theorem Inv.kIn (I : Inv X pins σ H s) : X.K.In s.heap := I.ok.mod.kin.keeps I.bk
theorem Inv.nolimit (I : Inv X pins σ H s) : s.heap.NoLimit := I.ok.mod.nolimit.keeps I.bk
/-- the frame over the base: for OpenK's rules (K.In X.base is I.mod.kin) -/
theorem Inv.fr (I : Inv X pins σ H s) : ∃ m, Fr X.base X.env.locals s.heap m :=
  let ⟨m, hn, _⟩ := I.loc
  ⟨m, hn, I.bk, Nat.le_trans I.ok.bsz I.ok.above⟩
theorem Inv.lt (I : Inv X pins σ H s) : X.env.locals < s.heap.objs.size := let ⟨_, hn, _⟩ := I.loc; hn.lt
theorem Inv.sz (I : Inv X pins σ H s) : X.s₀.heap.objs.size ≤ s.heap.objs.size := Nat.le_trans I.ok.above (Nat.le_of_lt I.lt)
theorem Inv.nofs (I : Inv X pins σ H s) {a : Addr} (h : s.heap.objs.size ≤ a) : a ∉ X.fs := fun hb => by
  obtain ⟨_, o, ho, _⟩ := I.ok.funs.mem hb
  exact absurd (Nat.lt_of_lt_of_le (Heap.lt_size ho) (Nat.le_trans I.sz h)) (Nat.lt_irrefl _)
theorem Inv.cne (I : Inv X pins σ H s) : ∀ x c, X.env.cells.lookup x = some c → c ≠ X.env.locals := fun x c e z => by
  obtain ⟨v, o, ho, hd⟩ := I.cell x c e
  obtain ⟨m, ⟨o', es, ep, ho', hd', _⟩, _⟩ := I.loc
  rw [z, ho'] at ho; cases ho; rw [hd'] at hd; cases hd
theorem Inv.funs (I : Inv X pins σ H s) : s.heap.FunFrames X.base X.outer := by
  have all : ∀ (l : List Env), (∀ b ∈ frs l, b ∈ X.fs) → X.s₀.heap.FunFrames X.base l → s.heap.FunFrames X.base l := by
    intro l
    induction l with
    | nil => intro _ _; trivial
    | cons env r ih =>
      intro hs hl
      obtain ⟨hk, ⟨L, o, hf, hn, ho, hd⟩, hr⟩ := hl
      have hL : L ∈ X.fs := hs L (by unfold frs; rw [List.filterMap_cons, hf]; exact List.mem_cons_self)
      obtain ⟨sl, e⟩ := I.base.slot L o ho (I.ok.frf L hL) hL fun z => I.ok.exfs L z hL
      exact ⟨hk, ⟨L, _, hf, hn, e, hd⟩, ih (fun b hb => hs b (by unfold frs; rw [List.filterMap_cons, hf]; exact List.mem_cons_of_mem _ hb)) hr⟩
  exact all X.outer (fun _ hb => hb) I.ok.funs

/-- the frames that run, for a call -/
theorem Inv.stack (I : Inv X pins σ H s) : s.heap.FunFrames X.base X.stack := by
  rcases I.ok.stk with e | ⟨e, hf⟩
  · rw [e]; exact I.funs
  · rw [e]
    obtain ⟨m, hn, _⟩ := I.loc
    refine .cons (by rw [I.ok.kind]; decide) hf hn ?_ I.funs
    exact Heap.get?_none_of_le (Nat.le_trans I.ok.bsz I.ok.above)
theorem Inv.stkSub (I : Inv X pins σ H s) : ∀ b ∈ frs X.stack, b ∈ X.env.locals :: X.fs := fun b hb => by
  rcases I.ok.stk with e | ⟨e, hf⟩
  · rw [e] at hb; exact List.mem_cons_of_mem _ hb
  · rw [e] at hb
    unfold frs at hb
    rw [List.filterMap_cons, hf] at hb
    exact hb
theorem Inv.stkFree (I : Inv X pins σ H s) : ∀ b ∈ frs X.stack, H b = none := fun b hb => by
  rcases List.mem_cons.mp (I.stkSub b hb) with e | hb
  · rw [e]; exact I.free
  · obtain ⟨_, o, ho, _⟩ := I.ok.funs.mem hb
    exact I.base.free b o ho (I.ok.frf b hb) fun z => I.ok.exfs b z hb

/-- THE STEP: the untracked objects but the frame and the records at ch are kept (the callers' frames up to slots), the frame's map is kept, the new abstract heap is held -/
theorem Inv.step {g' : Array GenState} {t' : Nat} {d' : Drawn} {ch : List Addr} (I : Inv X pins σ H s)
    (hch : ∀ b ∈ ch, (b ∈ X.ex ∨ X.s₀.heap.objs.size ≤ b) ∧ b ≠ X.env.locals ∧ (∀ x c, X.env.cells.lookup x = some c → c ≠ b) ∧ ∀ p ∈ X.pn ++ pins, p.1 ≠ b)
    (keep : ∀ b o, b ≠ X.env.locals → b ∉ X.fs → b ∉ ch → s.heap.get? b = some o → H b = none → h'.get? b = some o)
    (slot : ∀ b o, b ≠ X.env.locals → b ∈ X.fs → b ∉ ch → s.heap.get? b = some o → H b = none → ∃ sl, h'.get? b = some { o with slots := sl }) (free : ∀ b o, b ∉ ch → s.heap.get? b = some o → H b = none → H' b = none)
    (there : ∀ b o, b ∉ ch → s.heap.get? b = some o → ∃ o', h'.get? b = some o')
    (tups : ∀ b xs, H b = some (.tup xs) → H' b = some (.tup xs)) (frzs : ∀ b o u, H b = some (.frz o u) → H' b = some (.frz o u)) (tbls : ∀ b ps, H b = some (.tbl ps) → ∃ more, H' b = some (.tbl (ps ++ more)))
    (ns : ∀ m, s.heap.Ns X.env.locals m → h'.Ns X.env.locals m) (hok : HOk X.prog X.w H' h') (hg : AllBare g') :
    Inv X pins σ H' { s with heap := h', gens := g', drawn := d', toks := t' } := by
  have neL : ∀ b o, X.s₀.heap.get? b = some o → b ≠ X.env.locals := fun b o e => Nat.ne_of_lt (Nat.lt_of_lt_of_le (Heap.lt_size e) I.ok.above)
  have neC : ∀ b o, X.s₀.heap.get? b = some o → b ∉ X.ex → b ∉ ch := fun b o e hx hb => by
    rcases (hch b hb).1 with z | z
    · exact hx z
    · exact absurd (Nat.lt_of_lt_of_le (Heap.lt_size e) z) (Nat.lt_irrefl _)
  have cellK : ∀ x c, X.env.cells.lookup x = some c → ∀ v, s.heap.IsCell c v → h'.IsCell c v := fun x c e v ⟨o, ho, hd⟩ => by
    have nch : c ∉ ch := fun z => (hch c z).2.2.1 x c e rfl
    by_cases hc : c ∈ X.fs
    · obtain ⟨sl, q⟩ := slot c o (I.cne x c e) hc nch ho (I.freeC x c e)
      exact ⟨_, q, hd⟩
    · exact ⟨o, keep c o (I.cne x c e) hc nch ho (I.freeC x c e), hd⟩
  refine ⟨I.ok, I.os, hg, ⟨fun b o e n hb hx => ?_, fun b o e n hb hx => ?_, fun b o e n hx => ?_, fun b o e hx => ?_, fun b xs e => tups b xs (I.base.tups b xs e), fun b o xs e => frzs b o xs (I.base.frzs b o xs e), fun b ps e => ?_⟩, ?_, fun x c e => ?_, ?_, fun x c e => ?_, fun p hp => ?_, hok, I.len⟩
  · exact keep b o (neL b o e) hb (neC b o e hx) (I.base.keep b o e n hb hx) (I.base.free b o e n hx)
  · obtain ⟨sl, e1⟩ := I.base.slot b o e n hb hx
    obtain ⟨sl', e2⟩ := slot b _ (neL b o e) hb (neC b o e hx) e1 (I.base.free b o e n hx)
    exact ⟨sl', e2⟩
  · obtain ⟨o', e1⟩ := I.base.there b o e hx
    exact free b o' (neC b o e hx) e1 (I.base.free b o e n hx)
  · obtain ⟨o', e1⟩ := I.base.there b o e hx
    exact there b o' (neC b o e hx) e1
  · obtain ⟨m1, e1⟩ := I.base.tbls b ps e
    obtain ⟨m2, e2⟩ := tbls b _ e1
    exact ⟨m1 ++ m2, by rw [e2, Array.append_assoc]⟩
  · obtain ⟨m, hn, hl⟩ := I.loc
    refine ⟨m, ns m hn, fun i x v e1 e2 e3 => ?_⟩
    obtain ⟨u, r, l⟩ := hl i x v e1 e2 e3
    refine ⟨u, r, ?_⟩
    rcases l with l | ⟨k, c, e, z⟩
    · exact .inl l
    · exact .inr ⟨k, c, e, cellK x c e _ z⟩
  · obtain ⟨v, z⟩ := I.cell x c e
    exact ⟨v, cellK x c e v z⟩
  · obtain ⟨m, ⟨o, _, _, ho, _⟩, _⟩ := I.loc
    exact free _ o (fun z => (hch _ z).2.1 rfl) ho I.free
  · obtain ⟨v, o, ho, hd⟩ := I.cell x c e
    exact free c o (fun z => (hch c z).2.2.1 x c e rfl) ho (I.freeC x c e)
  · obtain ⟨e, n, ne, nf, d⟩ := I.pin p hp
    have nch : p.1 ∉ ch := fun z => (hch p.1 z).2.2.2 p hp rfl
    exact ⟨keep p.1 p.2 ne nf nch e n, free p.1 p.2 nch e n, ne, nf, d⟩
/-- .. where the frame's own object is kept too -/
theorem Inv.un {t' : Nat} (I : Inv X pins σ H s) (u : Un X.fs [] H H' s.heap h') (hok : HOk X.prog X.w H' h') : Inv X pins σ H' { s with heap := h', toks := t' } := by
  obtain ⟨m, ⟨o, es, ep, ho, r⟩, _⟩ := id I.loc
  obtain ⟨sl, hL⟩ := u.any ho I.free (by simp)
  exact I.step (g' := s.gens) (d' := s.drawn) (ch := []) (fun _ z => nomatch z) (fun b o _ hb _ e n => u.keep b o e n hb (by simp)) (fun b o _ hb _ e n => u.slot b o e n hb (by simp)) (fun b o _ e n => u.free b o e n (by simp)) (fun b o _ e => u.there b o e (by simp)) u.tups u.frzs u.tbls (fun m' hm => by
    obtain ⟨o', es', ep', ho', r'⟩ := hm
    rw [ho] at ho'; cases ho'
    exact ⟨_, es', ep', hL, r'⟩) hok I.bare
/-- behind a call (or a comprehension's block): the slots of this frame may have changed too, the records at ch may have turned -/
theorem Inv.call {g' : Array GenState} {t' : Nat} {d' : Drawn} {ch : List Addr} (I : Inv X pins σ H s) (u : Un (frs X.stack) ch H H' s.heap h') (hok : HOk X.prog X.w H' h') (hg : AllBare g')
    (hch : ∀ b ∈ ch, (b ∈ X.ex ∨ X.s₀.heap.objs.size ≤ b) ∧ b ≠ X.env.locals ∧ (∀ x c, X.env.cells.lookup x = some c → c ≠ b) ∧ ∀ p ∈ X.pn ++ pins, p.1 ≠ b) :
    Inv X pins σ H' { s with heap := h', gens := g', drawn := d', toks := t' } := by
  obtain ⟨m, ⟨o, es, ep, ho, r⟩, _⟩ := id I.loc
  obtain ⟨sl, hL⟩ := u.any ho I.free fun z => (hch _ z).2.1 rfl
  exact I.step (ch := ch) hch (fun b o hL hb hc e n => u.keep b o e n (fun z => (List.mem_cons.mp (I.stkSub b z)).elim hL hb) hc) (fun b o _ _ hc e n => u.any e n hc) (fun b o hc e n => u.free b o e n hc) (fun b o hc e => u.there b o e hc) u.tups u.frzs u.tbls (fun m' hm => by
    obtain ⟨o', es', ep', ho', r'⟩ := hm
    rw [ho] at ho'; cases ho'
    exact ⟨_, es', ep', hL, r'⟩) hok hg
/-- an untracked record of ours (an iterator) has turned -/
theorem Inv.turned {t' : Nat} {it : Addr} (I : Inv X pins σ H s) (k : ∀ b o, b ≠ it → s.heap.get? b = some o → h'.get? b = some o) (hn : H it = none) (hL : it ≠ X.env.locals)
    (h1 : it ∈ X.ex ∨ X.s₀.heap.objs.size ≤ it) (h2 : ∀ x c, X.env.cells.lookup x = some c → c ≠ it) (h3 : ∀ p ∈ X.pn ++ pins, p.1 ≠ it) : Inv X pins σ H { s with heap := h', toks := t' } := by
  have nit : ∀ b u, H b = some u → b ≠ it := fun b u e z => by rw [z, hn] at e; cases e
  refine I.step (g' := s.gens) (d' := s.drawn) (ch := [it]) (fun b hb => ?_) (fun b o _ _ hc e _ => k b o (fun z => hc (by simp [z])) e) (fun b o _ _ hc e _ => ⟨o.slots, k b o (fun z => hc (by simp [z])) e⟩) (fun _ _ _ _ n => n)
    (fun b o hc e => ⟨o, k b o (fun z => hc (by simp [z])) e⟩) (fun _ _ e => e) (fun _ _ _ e => e) (fun b ps e => ⟨#[], by rw [e]; simp⟩) (fun m hm => ?_) (fun b u e => ?_) I.bare
  · have e : b = it := by simpa using hb
    subst e
    exact ⟨h1, hL, h2, h3⟩
  · obtain ⟨o, es, ep, ho, r⟩ := hm
    exact ⟨o, es, ep, k _ o (Ne.symm hL) ho, r⟩
  · refine (I.hok b u e).stay (fun c v hc q => k c v ?_ q) (fun _ q => q) fun _ _ q => q
    rcases hc with z | z
    · rw [z]; exact nit b u e
    · exact nit c _ z
theorem Inv.tok (I : Inv X pins σ H s) (t : Nat) : Inv X pins σ H { s with toks := t } := I.un (h' := s.heap) (t' := t) Un.refl I.hok
/-- all objects kept -/
theorem Inv.kept {t' : Nat} (I : Inv X pins σ H s) (k : ∀ b u, s.heap.get? b = some u → h'.get? b = some u) : Inv X pins σ H { s with heap := h', toks := t' } := I.un (Un.kept k) (I.hok.kept k)
/-- a new object laid and tracked -/
theorem Inv.laid {a : Addr} {o : HO} {t' : Nat} (I : Inv X pins σ H s) (k : ∀ b u, s.heap.get? b = some u → h'.get? b = some u) (hp : s.heap.objs.size ≤ a) (new : ObjOk X.prog X.w (upd H a o) h' a o) :
    Inv X pins σ (upd H a o) { s with heap := h', toks := t' } := I.un (Un.laid k hp (I.hok.fresh hp)) (I.hok.laid k hp new)
/-- an object written -/
theorem Inv.write {x e : Addr} {o : HO} {t' : Nat} (I : Inv X pins σ H s) (mu : Mut (H x)) (he : e = x ∨ H e = some (.own x)) (k : ∀ b u, b ≠ e → s.heap.get? b = some u → h'.get? b = some u) (heo : ∃ u, h'.get? e = some u)
    (new : ObjOk X.prog X.w (upd H x o) h' x o) : Inv X pins σ (upd H x o) { s with heap := h', toks := t' } := I.un (Un.write mu he k heo) (I.hok.write mu he k heo new)
theorem Inv.pins_of {pins' : List (Addr × Obj)} (I : Inv X pins σ H s) (h : ∀ p ∈ pins', s.heap.get? p.1 = some p.2 ∧ H p.1 = none ∧ p.1 ≠ X.env.locals ∧ p.1 ∉ X.fs ∧ ∀ v, p.2.data ≠ .cell v) : Inv X pins' σ H s :=
  ⟨I.ok, I.os, I.bare, I.base, I.loc, I.cell, I.free, I.freeC, fun p hp => (List.mem_append.mp hp).elim (fun z => I.pin p (List.mem_append_left _ z)) (h p), I.hok, I.len⟩

theorem nodup_ix {N : List Str} (hN : N.Nodup) {i j : Nat} {x : Str} (a : N[i]? = some x) (b : N[j]? = some x) : i = j := by
  obtain ⟨h1, e1⟩ := List.getElem?_eq_some_iff.mp a
  obtain ⟨h2, e2⟩ := List.getElem?_eq_some_iff.mp b
  exact (List.getElem_inj hN).mp (e1.trans e2.symm)

/-- a name is stored; what changed -/
theorem store_ok2 {M : Model} {A : Around} {E : Value → Shared → Prop} {i : Nat} {x : Str} {v : V} {u : Value} {Q : Unit → Shared → Prop} (I : Inv X pins σ H s) (hN : X.N.Nodup) (hi : X.N[i]? = some x) (hx : Loc X.env.scope x) (r : RelV v u)
    (h : ∀ s', Inv X pins (σ.set i (some v)) H s' → (∃ a, Heap.SameBut a s.heap s'.heap ∧ (a = X.env.locals ∨ X.env.cells.lookup x = some a)) → Q () s') (hf : X.fn x = true ∨ X.env.scope.names.lookup x = some .local := by first | exact .inl rfl | exact .inr rfl | assumption) : wpAny M A (storeName X.env x u) Q E s := by
  obtain ⟨m, hn, hl⟩ := id I.loc
  have hcls : (X.env.scope.kind == .class || (X.env.scope.kind == .module && X.env.locals != X.env.globals)) = false := by rw [I.ok.kind]; rfl
  have hiσ : i < σ.length := by rw [I.len]; exact (List.getElem?_eq_some_iff.mp hi).1
  have cne := I.cne
  have tracked : ∀ {a : Addr} {h' : Heap}, (∃ o, s.heap.get? a = some o ∧ H a = none) → Heap.SameBut a s.heap h' → HOk X.prog X.w H h' := fun {a h'} ha hs b ob e => by
    obtain ⟨_, _, hfree⟩ := ha
    refine (I.hok b ob e).stay (fun c w' hc q => (hs.2 c ?_).trans q) (fun _ q => q) fun _ _ q => q
    rintro rfl
    rcases hc with rfl | hc
    · rw [hfree] at e; cases e
    · rw [hfree] at hc; cases hc
  rcases hx with hk | hk
  · refine wpAny_storeName_local hk hn (fun h' hn' hs => ?_) hcls
    obtain ⟨oL, _, _, hoL, _⟩ := id hn
    refine h _ ⟨I.ok, I.os, I.bare, ⟨fun b o e n hb hx => ?_, fun b o e n hb hx => ?_, I.base.free, fun b o e hx => ?_, I.base.tups, I.base.frzs, I.base.tbls⟩, ⟨_, hn', fun j y v' e1 e2 e3 => ?_⟩, fun y c e => ?_, I.free, I.freeC, fun p hp => ?_, tracked ⟨oL, hoL, I.free⟩ hs, by simpa using I.len⟩ ⟨_, hs, .inl rfl⟩
    · exact (hs.2 b (Nat.ne_of_lt (Nat.lt_of_lt_of_le (Heap.lt_size e) I.ok.above))).trans (I.base.keep b o e n hb hx)
    · obtain ⟨sl, e1⟩ := I.base.slot b o e n hb hx
      exact ⟨sl, (hs.2 b (Nat.ne_of_lt (Nat.lt_of_lt_of_le (Heap.lt_size e) I.ok.above))).trans e1⟩
    · obtain ⟨o', e1⟩ := I.base.there b o e hx
      exact ⟨o', (hs.2 b (Nat.ne_of_lt (Nat.lt_of_lt_of_le (Heap.lt_size e) I.ok.above))).trans e1⟩
    · by_cases hj : j = i
      · subst hj
        rw [hi] at e1; cases e1
        rw [List.getElem?_set_self hiσ] at e2
        cases e2
        exact ⟨u, r, .inl ⟨hk, by simp⟩⟩
      · rw [List.getElem?_set_ne (Ne.symm hj)] at e2
        obtain ⟨u', r', q⟩ := hl j y v' e1 e2 e3
        refine ⟨u', r', ?_⟩
        rcases q with ⟨k, e⟩ | ⟨k, c, e, z⟩
        · refine .inl ⟨k, ?_⟩
          have : y ≠ x := fun e => hj (nodup_ix hN e1 (e ▸ hi))
          simp [this, e]
        · exact .inr ⟨k, c, e, z.sameBut hs (cne y c e)⟩
    · obtain ⟨w', z⟩ := I.cell y c e
      exact ⟨w', z.sameBut hs (cne y c e)⟩
    · obtain ⟨e, n, ne, nf, d⟩ := I.pin p hp
      exact ⟨(hs.2 p.1 ne).trans e, n, ne, nf, d⟩
  · have hfn : X.fn x = true := by
      rcases hf with z | z
      · exact z
      · rw [z] at hk; cases hk
    obtain ⟨c, hc⟩ := I.ok.has x (.inl hk)
    obtain ⟨w', z⟩ := I.cell x c hc
    refine wpAny_storeName_cell I.ok.kind hk hc z (fun h' hc' hs => ?_)
    obtain ⟨oc, hoc, hocd⟩ := id z
    refine h { s with heap := h' } ⟨I.ok, I.os, I.bare, ⟨fun b o e n hb hx => ?_, fun b o e n hb hx => ?_, I.base.free, fun b o e hx => ?_, I.base.tups, I.base.frzs, I.base.tbls⟩, ⟨m, hn.sameBut hs (Ne.symm (cne x c hc)), fun j y v' e1 e2 e3 => ?_⟩, fun y c' e => ?_, I.free, I.freeC, fun p hp => ?_, tracked ⟨oc, hoc, I.freeC x c hc⟩ hs, by simpa using I.len⟩ ⟨c, hs, .inr hc⟩
    · exact (hs.2 b (Nat.ne_of_lt (Nat.lt_of_lt_of_le (Heap.lt_size e) (I.ok.cab x c hfn hc)))).trans (I.base.keep b o e n hb hx)
    · obtain ⟨sl, e1⟩ := I.base.slot b o e n hb hx
      exact ⟨sl, (hs.2 b (Nat.ne_of_lt (Nat.lt_of_lt_of_le (Heap.lt_size e) (I.ok.cab x c hfn hc)))).trans e1⟩
    · obtain ⟨o', e1⟩ := I.base.there b o e hx
      exact ⟨o', (hs.2 b (Nat.ne_of_lt (Nat.lt_of_lt_of_le (Heap.lt_size e) (I.ok.cab x c hfn hc)))).trans e1⟩
    · by_cases hj : j = i
      · subst hj
        rw [hi] at e1; cases e1
        rw [List.getElem?_set_self hiσ] at e2
        cases e2
        exact ⟨u, r, .inr ⟨.inl hk, c, hc, hc'⟩⟩
      · rw [List.getElem?_set_ne (Ne.symm hj)] at e2
        obtain ⟨u', r', q⟩ := hl j y v' e1 e2 e3
        refine ⟨u', r', ?_⟩
        rcases q with q | ⟨k, c', e, z'⟩
        · exact .inl q
        · refine .inr ⟨k, c', e, z'.sameBut hs ?_⟩
          rintro rfl
          exact hj (nodup_ix hN e1 (I.ok.inj _ _ _ e hc ▸ hi))
    · by_cases hcc : c' = c
      · subst hcc; exact ⟨_, hc'⟩
      · obtain ⟨w2, z2⟩ := I.cell y c' e
        exact ⟨w2, z2.sameBut hs hcc⟩
    · obtain ⟨e, n, ne, nf, d⟩ := I.pin p hp
      refine ⟨(hs.2 p.1 ?_).trans e, n, ne, nf, d⟩
      intro q
      rw [q, hoc] at e
      have q' : oc = p.2 := Option.some.inj e
      exact d w' (by rw [← q']; exact hocd)
theorem store_ok {M : Model} {A : Around} {E : Value → Shared → Prop} {i : Nat} {x : Str} {v : V} {u : Value} {Q : Unit → Shared → Prop} (I : Inv X pins σ H s) (hN : X.N.Nodup) (hi : X.N[i]? = some x) (hx : Loc X.env.scope x) (r : RelV v u)
    (h : ∀ s', Inv X pins (σ.set i (some v)) H s' → Q () s') (hf : X.fn x = true ∨ X.env.scope.names.lookup x = some .local := by first | exact .inl rfl | exact .inr rfl | assumption) : wpAny M A (storeName X.env x u) Q E s :=
  store_ok2 I hN hi hx r (fun s' I' _ => h s' I') hf
/-- behind a call or a block, the state as it is -/
theorem Inv.call' {s' : Shared} {ch : List Addr} (I : Inv X pins σ H s) (ho : s'.os = s.os) (u : Un (frs X.stack) ch H H' s.heap s'.heap) (hok : HOk X.prog X.w H' s'.heap) (hg : AllBare s'.gens)
    (hch : ∀ b ∈ ch, (b ∈ X.ex ∨ X.s₀.heap.objs.size ≤ b) ∧ b ≠ X.env.locals ∧ (∀ x c, X.env.cells.lookup x = some c → c ≠ b) ∧ ∀ p ∈ X.pn ++ pins, p.1 ≠ b) : Inv X pins σ H' s' := by
  obtain ⟨h', g', d', t', o'⟩ := s'
  have e : o' = s.os := ho
  subst e
  exact I.call (g' := g') (t' := t') (d' := d') u hok hg hch
end

/-! ### the judgements -/
/-- an exception: its class, its own dict's address (where it has one), the abstract heap behind it -/
abbrev XK := Value → Option Addr → Hp → Prop
abbrev St := List (Option V)
abbrev VK := V → Hp → Prop
/-- an expression's reading; a test's; an argument list's -/
abbrev TE := St → Hp → VK → Prop
abbrev TT := St → Hp → (Bool → Hp → Prop) → Prop
abbrev TA := St → Hp → (List V → Hp → Prop) → Prop
/-- what is wanted behind a statement -/
structure Ends where
  nx : St → Hp → Prop
  rt : VK
  bk : St → Hp → Prop := fun _ _ => False
  ct : St → Hp → Prop := fun _ _ => False
abbrev TS := Ends → St → Hp → Prop

def EP (X : Cx) (pins : List (Addr × Obj)) (σ : St) (Q : VK) (u : Value) (s' : Shared) : Prop := ∃ v H', Inv X pins σ H' s' ∧ RelV v u ∧ Q v H'
def TP (X : Cx) (pins : List (Addr × Obj)) (σ : St) (Q : Bool → Hp → Prop) (b : Bool) (s' : Shared) : Prop := ∃ H', Inv X pins σ H' s' ∧ Q b H'
def AP (X : Cx) (pins : List (Addr × Obj)) (σ : St) (Q : List V → Hp → Prop) (us : List Value) (s' : Shared) : Prop := ∃ vs H', Inv X pins σ H' s' ∧ Vals vs us ∧ Q vs H'
def SP (X : Cx) (pins : List (Addr × Obj)) (D : Ends) (f : Flow) (s' : Shared) : Prop :=
  match f with
  | .next => ∃ σ' H', Inv X pins σ' H' s' ∧ D.nx σ' H'
  | .brk => ∃ σ' H', Inv X pins σ' H' s' ∧ D.bk σ' H'
  | .cont => ∃ σ' H', Inv X pins σ' H' s' ∧ D.ct σ' H'
  | .ret u => ∃ v σ' H', Inv X pins σ' H' s' ∧ RelV v u ∧ D.rt v H'

def PE (X : Cx) (e : Expr) (t : TE) : Prop :=
  ∀ (pins : List (Addr × Obj)) (s : Shared) (σ : St) (H : Hp) (Q : VK), Inv X pins σ H s → t σ H Q → wpAny (model X.prog X.w) X.A (eval e X.env) (EP X pins σ Q) X.xe s
def PT (X : Cx) (e : Expr) (t : TT) : Prop :=
  ∀ (pins : List (Addr × Obj)) (s : Shared) (σ : St) (H : Hp) (Q : Bool → Hp → Prop), Inv X pins σ H s → t σ H Q → wpAny (model X.prog X.w) X.A (isTrue e X.env (eval e X.env)) (TP X pins σ Q) X.xe s
/-- a test whatever its 'whole' is (and, or) -/
def PW (X : Cx) (e : Expr) (t : TT) : Prop :=
  ∀ (whole : Sem Value) (pins : List (Addr × Obj)) (s : Shared) (σ : St) (H : Hp) (Q : Bool → Hp → Prop), Inv X pins σ H s → t σ H Q → wpAny (model X.prog X.w) X.A (isTrue e X.env whole) (TP X pins σ Q) X.xe s
theorem PW.pt {X : Cx} {e : Expr} {t : TT} (h : PW X e t) : PT X e t := h _
/-- an argument list (no star), from the left -/
def PA (X : Cx) (es : List Expr) (t : TA) : Prop :=
  ∀ (pos : Pos) (pins : List (Addr × Obj)) (s : Shared) (σ : St) (H : Hp) (Q : List V → Hp → Prop), Inv X pins σ H s → t σ H Q → wpAny (model X.prog X.w) X.A (spliced (backTo pos (starEach es X.env))) (AP X pins σ Q) X.xe s
def PS (X : Cx) (st : Stmt) (t : TS) : Prop :=
  ∀ (pins : List (Addr × Obj)) (s : Shared) (σ : St) (H : Hp) (D : Ends), Inv X pins σ H s → t D σ H → wpAny (model X.prog X.w) X.A (exec st X.env) (SP X pins D) X.xe s
def PSs (X : Cx) (st : List Stmt) (t : TS) : Prop :=
  ∀ (pins : List (Addr × Obj)) (s : Shared) (σ : St) (H : Hp) (D : Ends), Inv X pins σ H s → t D σ H → wpAny (model X.prog X.w) X.A (execs st X.env) (SP X pins D) X.xe s
/-- weaken the end -/
theorem thn {α : Type} {t : Sem α} {Q Q' : α → Shared → Prop} {M : Model} {A : Around} {E : Value → Shared → Prop} {s : Shared} (h : wpAny M A t Q E s) (hQ : ∀ a s, Q a s → Q' a s) : wpAny M A t Q' E s := wpAny_mono h hQ fun _ _ x => x
end L2

namespace L2
open PySem PySem.Spec PyProof.Rows
section
variable {X : Cx}

/-- two expressions in a row -/
theorem bin {a b : Expr} {ta tb : TE} (ha : PE X a ta) (hb : PE X b tb) {pins : List (Addr × Obj)} {s : Shared} {σ : St} {H : Hp} {R : V → V → Hp → Prop} (I : Inv X pins σ H s) (h : ta σ H fun x H1 => tb σ H1 fun y H2 => R x y H2)
    {α : Type} {Q : α → Shared → Prop} {f : Value → Value → Sem α}
    (hf : ∀ v u s2 x y H2, Inv X pins σ H2 s2 → RelV x v → RelV y u → R x y H2 → wpAny (model X.prog X.w) X.A (f v u) Q X.xe s2) :
    wpAny (model X.prog X.w) X.A (eval a X.env) (fun v s₁ => wpAny (model X.prog X.w) X.A (eval b X.env) (fun u s₂ => wpAny (model X.prog X.w) X.A (f v u) Q X.xe s₂) X.xe s₁) X.xe s := by
  refine thn (ha pins s σ H _ I h) fun v s1 ⟨x, H1, I1, r1, q1⟩ => ?_
  refine thn (hb pins s1 σ H1 _ I1 q1) fun u s2 ⟨y, H2, I2, r2, q2⟩ => ?_
  exact hf v u s2 x y H2 I2 r1 r2 q2

/-! ### names and constants -/
def tVar (i : Nat) : TE := fun σ H Q => ∃ v, σ[i]? = some (some v) ∧ Q v H
def tC (v : V) : TE := fun _ H Q => Q v H
theorem pe_var {i : Nat} {x : Str} {pos : Pos} (hN : X.N[i]? = some x) (hv : Vis X.env.scope x) (hd : (x == ("__debug__" : Str)) = false := by decide) (hcd : (x == ("__classdict__" : Str)) = false := by decide) : PE X (.Name x pos) (tVar i) := by
  intro pins s σ H Q I h
  obtain ⟨v, e, h⟩ := h
  obtain ⟨m, hn, hl⟩ := I.loc
  obtain ⟨u, r, l⟩ := hl i x v hN e hv
  have fin : EP X pins σ Q u s := ⟨v, H, I, r, h⟩
  rcases l with ⟨hk, hm⟩ | ⟨hk, c, hc, hcell⟩
  · exact wpAny_Name (wpAny_loadName_local I.ok.kind hk hn hm fin) hd
  · rcases hk with hk | hk
    · exact wpAny_Name (wpAny_loadName_cell I.ok.kind hk hc hcell fin) hd
    · exact wpAny_Name (wpAny_loadName_free I.ok.kind hk hc hcell fin hcd) hd
theorem pe_int {i j pos} : PE X (.Constant (.int i) j pos) (tC (.int i)) := fun _ _ _ H _ I h => wpAny_Constant_int ⟨.int i, H, I.tok _, ⟨_, rfl⟩, h⟩
theorem pe_bl {b j pos} : PE X (.Constant (.bool b) j pos) (tC (.bl b)) := fun _ _ _ H _ I h => Constant_bool ⟨.bl b, H, I, rfl, h⟩
theorem pe_str {x j pos} : PE X (.Constant (.str x) j pos) (tC (.str x)) := fun _ _ _ H _ I h => Calls.Constant_str ⟨.str x, H, I.tok _, ⟨_, rfl⟩, h⟩

/-- a global name of the def -/
def Gl (X : Cx) (x : Str) : Prop := X.env.kindOf x = some .globalImplicit
theorem ld_glob {E : Value → Shared → Prop} {pins : List (Addr × Obj)} {s : Shared} {σ : St} {H : Hp} {x : Str} {u : Value} {pos : Pos} {Q : Value → Shared → Prop} (I : Inv X pins σ H s) (hg : Gl X x) (hm : X.mg x = some u) (h : Q u s)
    (hd : (x == ("__debug__" : Str)) = false := by decide) : wpAny (model X.prog X.w) X.A (eval (.Name x pos) X.env) Q E s :=
  Calls.Name_function_global I.ok.kind hg (Calls.loadGlobal_global (by rw [I.ok.glob]; exact I.mod.glob.keeps I.bk) hm h) hd
theorem ld_blt {E : Value → Shared → Prop} {pins : List (Addr × Obj)} {s : Shared} {σ : St} {H : Hp} {x : Str} {u : Value} {pos : Pos} {Q : Value → Shared → Prop} (I : Inv X pins σ H s) (hg : Gl X x) (hm : X.mg x = none) (hv : bootBuiltins x = some u) (h : Q u s)
    (hn : x ≠ "__name__" := by decide) (hd : (x == ("__debug__" : Str)) = false := by decide) : wpAny (model X.prog X.w) X.A (eval (.Name x pos) X.env) Q E s := by
  obtain ⟨mb, h1, h2⟩ := I.mod.blt
  exact Calls.Name_function_global I.ok.kind hg (Calls.loadGlobal_builtin (by rw [I.ok.glob]; exact I.mod.glob.keeps I.bk) hm (by rw [I.ok.blt]; exact h1.keeps I.bk) ((h2 x hn).trans hv) h) hd
/-- a module's constant, a class, a function, as a value -/
theorem pe_glob {x : Str} {v : V} {u : Value} {pos : Pos} (hg : Gl X x) (hm : X.mg x = some u) (r : RelV v u) (hd : (x == ("__debug__" : Str)) = false := by decide) : PE X (.Name x pos) (tC v) :=
  fun _ _ _ H _ I h => ld_glob I hg hm ⟨v, H, I, r, h⟩ hd
theorem pe_bltn {x : Str} {v : V} {u : Value} {pos : Pos} (hg : Gl X x) (hm : X.mg x = none) (hv : bootBuiltins x = some u) (r : RelV v u) (hn : x ≠ "__name__" := by decide) (hd : (x == ("__debug__" : Str)) = false := by decide) : PE X (.Name x pos) (tC v) :=
  fun _ _ _ H _ I h => ld_blt I hg hm hv ⟨v, H, I, r, h⟩ hn hd

/-! ### arithmetic -/
/-- two ints -/
def t2I (ta tb : TE) (k : Int → Int → Hp → Prop) : St → Hp → Prop := fun σ H => ta σ H fun x H1 => tb σ H1 fun y H2 => ∃ i j, x = .int i ∧ y = .int j ∧ k i j H2
def tAdd (ta tb : TE) : TE := fun σ H Q => t2I ta tb (fun i j H2 => Q (.int (i + j)) H2) σ H
def tSub (ta tb : TE) : TE := fun σ H Q => t2I ta tb (fun i j H2 => Q (.int (i - j)) H2) σ H
/-- the left factor below 2^64 -/
def tMul (ta tb : TE) : TE := fun σ H Q => t2I ta tb (fun i j H2 => (-(2 ^ 64) < i ∧ i < 2 ^ 64) ∧ Q (.int (i * j)) H2) σ H
variable {a b : Expr} {ta tb : TE} {pos : Pos}

/-! ### comparisons -/
def PC (X : Cx) (op : CmpOp) (a b : Expr) (t : TE) : Prop :=
  ∀ (pins : List (Addr × Obj)) (s : Shared) (σ : St) (H : Hp) (Q : VK), Inv X pins σ H s → t σ H Q →
    wpAny (model X.prog X.w) X.A (eval a X.env) (fun v s₁ => wpAny (model X.prog X.w) X.A (eval b X.env) (fun u s₂ => wpAny (model X.prog X.w) X.A (compareOp op v u) (EP X pins σ Q) X.xe s₂) X.xe s₁) X.xe s
theorem nobehind (b : Expr) {op : CmpOp} (h : op ≠ .In) (h2 : op ≠ .NotIn) : behindInMarks op b = false := by
  have e1 : (op == CmpOp.In) = false := by cases op <;> first | rfl | exact absurd rfl h
  have e2 : (op == CmpOp.NotIn) = false := by cases op <;> first | rfl | exact absurd rfl h2
  cases b <;> simp [behindInMarks, e1, e2]
def tCmp (p : Int → Int → Bool) (ta tb : TE) : TE := fun σ H Q => t2I ta tb (fun i j H2 => Q (.bl (p i j)) H2) σ H
abbrev tLt : TE → TE → TE := tCmp fun i j => decide (i < j)
abbrev tLe : TE → TE → TE := tCmp fun i j => decide (i ≤ j)
abbrev tGt : TE → TE → TE := tCmp fun i j => decide (j < i)
abbrev tGe : TE → TE → TE := tCmp fun i j => decide (j ≤ i)
abbrev tEqI : TE → TE → TE := tCmp fun i j => decide (i = j)
abbrev tNeI : TE → TE → TE := tCmp fun i j => !decide (i = j)
/-- is None -/
def tIsN (ta : TE) : TE := fun σ H Q => ta σ H fun x H1 => Q (.bl (decide (x = .non))) H1
def tNotN (ta : TE) : TE := fun σ H Q => ta σ H fun x H1 => Q (.bl (!decide (x = .non))) H1
/-- a comparison as a value, as a test -/
def tB (t : TE) : TT := fun σ H Q => t σ H fun x H1 => ∃ c, x = .bl c ∧ Q c H1
theorem pe_cmp {op : CmpOp} {t : TE} (h : PC X op a b t) (h1 : behindInMarks op b = false := by first | exact nobehind _ (by decide) (by decide) | rfl) : PE X (.Compare a [op] [b] pos) t := fun pins s σ H Q I hw => wpAny_Compare1 (h pins s σ H Q I hw) h1
theorem pt_cmp {op : CmpOp} {t : TE} (h : PC X op a b t) (h1 : behindInMarks op b = false := by first | exact nobehind _ (by decide) (by decide) | rfl) : PT X (.Compare a [op] [b] pos) (tB t) := by
  intro pins s σ H Q I hw
  refine wpAny_isTrue_Compare1 (thn (h pins s σ H _ I hw) fun v s1 h1 => thn h1 fun u s2 h2 => thn h2 fun c s3 ⟨x, H1, I1, r1, q1⟩ => ?_) h1
  obtain ⟨d, rfl, q⟩ := q1
  cases r1
  exact wpAny_truthy_bool ⟨H1, I1, q⟩
/-- an expression whose value is a bool, as a test -/
theorem pt_val {e : Expr} {t : TE} (h : PE X e t) (he : ∀ whole, isTrue e X.env whole = (do let v ← whole; standAt e.pos; holding [v] (truthy v)) := by intro _; rfl) : PT X e (tB t) := by
  intro pins s σ H Q I hw
  refine isTrue_plain (thn (h pins s σ H _ I hw) fun v s1 ⟨x, H1, I1, r1, q1⟩ => ?_) (he _)
  obtain ⟨d, rfl, q⟩ := q1
  cases r1
  exact wpAny_truthy_bool ⟨H1, I1, q⟩

/-! ### and, or, not -/
variable {tA tB' : TT} {rest : List Expr}
def tAnd (t u : TT) : TT := fun σ H Q => t σ H fun c H1 => if c = true then u σ H1 Q else Q false H1
def tOr (t u : TT) : TT := fun σ H Q => t σ H fun c H1 => if c = true then Q true H1 else u σ H1 Q
def tNot (t : TT) : TT := fun σ H Q => t σ H fun c H1 => Q (!c) H1
theorem pw_or1 (ha : PT X a tA) : PW X (.BoolOp .Or [a] pos) tA := by
  intro wh pins s σ H Q I h
  refine isTrue_or (thn (ha pins s σ H Q I h) fun c s1 e => ?_)
  cases c with
  | false => exact isTrue_or_nil e
  | true => exact e
theorem pw_or (ha : PT X a tA) (hb : PW X (.BoolOp .Or (b :: rest) pos) tB') : PW X (.BoolOp .Or (a :: b :: rest) pos) (tOr tA tB') := by
  intro wh pins s σ H Q I h
  refine isTrue_or (thn (ha pins s σ H _ I h) fun c s1 ⟨H1, I1, q1⟩ => ?_)
  cases c with
  | true => exact ⟨H1, I1, q1⟩
  | false => exact hb wh pins s1 σ H1 Q I1 q1
theorem pt_not (ha : PT X a tA) : PT X (.UnaryOp .Not a pos) (tNot tA) := by
  intro pins s σ H Q I h
  exact isTrue_not (ha pins s σ H (fun c H1 => Q (!c) H1) I h)
/-- .. as values (bools) -/
def tAndV (ta tb : TE) : TE := fun σ H Q => ta σ H fun x H1 => ∃ c, x = .bl c ∧ if c = true then tb σ H1 Q else Q (.bl false) H1
def tOrV (ta tb : TE) : TE := fun σ H Q => ta σ H fun x H1 => ∃ c, x = .bl c ∧ if c = true then Q (.bl true) H1 else tb σ H1 Q
def tNotV (ta : TE) : TE := fun σ H Q => ta σ H fun x H1 => ∃ c, x = .bl c ∧ Q (.bl (!c)) H1
theorem pe_one {op} {t : TE} (h : PE X a t) : PE X (.BoolOp op [a] pos) t := fun pins s σ H Q I hw => BoolOp_one (h pins s σ H Q I hw)
theorem pe_and (ha : PE X a ta) (hb : PE X (.BoolOp .And (b :: rest) pos) tb) : PE X (.BoolOp .And (a :: b :: rest) pos) (tAndV ta tb) := by
  intro pins s σ H Q I h
  refine BoolOp_and (thn (ha pins s σ H _ I h) fun v s1 ⟨x, H1, I1, r1, q1⟩ => ?_)
  obtain ⟨c, rfl, q1⟩ := q1
  cases r1
  refine wpAny_truthy_bool ?_
  cases c with
  | true => exact hb pins s1 σ H1 Q I1 q1
  | false => exact ⟨.bl false, H1, I1, rfl, q1⟩
theorem pe_or (ha : PE X a ta) (hb : PE X (.BoolOp .Or (b :: rest) pos) tb) : PE X (.BoolOp .Or (a :: b :: rest) pos) (tOrV ta tb) := by
  intro pins s σ H Q I h
  refine BoolOp_or (thn (ha pins s σ H _ I h) fun v s1 ⟨x, H1, I1, r1, q1⟩ => ?_)
  obtain ⟨c, rfl, q1⟩ := q1
  cases r1
  refine wpAny_truthy_bool ?_
  cases c with
  | false => exact hb pins s1 σ H1 Q I1 q1
  | true => exact ⟨.bl true, H1, I1, rfl, q1⟩
/-- a if t else b -/
def tIf (t : TT) (ta tb : TE) : TE := fun σ H Q => t σ H fun c H1 => if c = true then ta σ H1 Q else tb σ H1 Q
end
end L2

namespace L2
open PySem PySem.Spec PyProof.Rows

/-! ### a list, a tuple that is read: tracked, frozen, or an object of the module -/
def SqL (K : PySem.W.Frag) (H : Hp) (a : Addr) (xs : List V) : Prop :=
  Rd H a (.lst xs) ∨
    ∃ (o : Obj) (its : Array Value) (n : Nat), K.lookup a = some o ∧ o.cls = .type "list" ∧ o.dict = none ∧ o.data = .seq its n ∧ its.size ≤ sizeLine ∧ Vals xs its.toList
def SqT (K : PySem.W.Frag) (H : Hp) (a : Addr) (xs : List V) : Prop :=
  Rd H a (.tup xs) ∨
    ∃ (o : Obj) (its : Array Value) (n : Nat), K.lookup a = some o ∧ o.cls = .type "tuple" ∧ o.data = .seq its n ∧ its.size ≤ sizeLine ∧ Vals xs its.toList
def absV : Value → Option V
  | .none => some .non
  | .bool b => some (.bl b)
  | .int i _ => some (.int i)
  | .str x _ => some (.str x)
  | .bytes b _ => some (.byt b)
  | .float b _ => some (.flt b)
  | .ref a => some (.ref a)
  | .type n => some (.ty n)
  | _ => none
theorem RelV.abs {x : V} {u : Value} (r : RelV x u) : absV u = some x := by
  cases x with
  | non => cases r; rfl
  | bl _ => cases r; rfl
  | int _ => obtain ⟨t, rfl⟩ := r; rfl
  | str _ => obtain ⟨t, rfl⟩ := r; rfl
  | byt _ => obtain ⟨t, rfl⟩ := r; rfl
  | flt _ => obtain ⟨t, rfl⟩ := r; rfl
  | ref _ => cases r; rfl
  | ty _ => cases r; rfl
theorem RelV.inj {x y : V} {u : Value} (r : RelV x u) (q : RelV y u) : x = y := Option.some.inj (r.abs.symm.trans q.abs)
theorem Vals.inj : ∀ {xs ys : List V} {us : List Value}, Vals xs us → Vals ys us → xs = ys
  | _, _, _, .nil, .nil => rfl
  | _, _, _, .cons r t, .cons r' t' => by rw [r.inj r', Vals.inj t t']
section
variable {X : Cx} {pins : List (Addr × Obj)} {σ : St} {H : Hp} {s : Shared} {a : Addr} {xs ys : List V}
theorem SqL.of {K : PySem.W.Frag} (h : H a = some (.lst xs)) : SqL K H a xs := .inl (.inl h)
theorem SqT.of {K : PySem.W.Frag} (h : H a = some (.tup xs)) : SqT K H a xs := .inl (.inl h)
theorem Inv.list (I : Inv X pins σ H s) (h : SqL X.K H a xs) : ∃ its : List Value, Vals xs its ∧ PlainL s.heap a its.toArray ∧ xs.length ≤ sizeLine := by
  rcases h with h | ⟨o, its, n, hk, hc, hd, hs, hz, r⟩
  · obtain ⟨z, its, n, r, e⟩ := h.ok I.hok
    exact ⟨its, r, ⟨_, n, e, rfl, rfl, rfl⟩, z⟩
  · refine ⟨its.toList, r, ⟨o, n, I.kIn a o hk, hc, hd, by simpa using hs⟩, ?_⟩
    have e := r.length
    simp only [Array.length_toList] at e
    omega
theorem Inv.tuple (I : Inv X pins σ H s) (h : SqT X.K H a xs) : ∃ its : List Value, Vals xs its ∧ IsTup s.heap a its.toArray ∧ xs.length ≤ sizeLine := by
  rcases h with h | ⟨o, its, n, hk, hc, hs, hz, r⟩
  · obtain ⟨z, its, r, p⟩ := h.ok I.hok
    exact ⟨its, r, p, z⟩
  · refine ⟨its.toList, r, ⟨o, I.kIn a o hk, hc, n, by simpa using hs⟩, ?_⟩
    have e := r.length
    simp only [Array.length_toList] at e
    omega
theorem Inv.list_inj (I : Inv X pins σ H s) (h : SqL X.K H a xs) (h' : SqL X.K H a ys) : xs = ys := by
  obtain ⟨its, r, ⟨o, n, e, _, _, d⟩, _⟩ := I.list h
  obtain ⟨its', r', ⟨o', n', e', _, _, d'⟩, _⟩ := I.list h'
  rw [e] at e'; cases e'
  rw [d] at d'
  injection d' with d1 _
  have : its = its' := by simpa using congrArg Array.toList d1
  subst this
  exact r.inj r'
theorem Inv.tuple_inj (I : Inv X pins σ H s) (h : SqT X.K H a xs) (h' : SqT X.K H a ys) : xs = ys := by
  obtain ⟨its, r, ⟨o, e, _, n, d⟩, _⟩ := I.tuple h
  obtain ⟨its', r', ⟨o', e', _, n', d'⟩, _⟩ := I.tuple h'
  rw [e] at e'; cases e'
  rw [d] at d'
  injection d' with d1 _
  have : its = its' := by simpa using congrArg Array.toList d1
  subst this
  exact r.inj r'
end

/-! ### another wish about exceptions -/
abbrev Cx.wish (X : Cx) (E : Value → Shared → Prop) : Cx := { X with xe := E }
/-- no exception leaves -/
abbrev Cx.nox (X : Cx) : Cx := X.wish fun _ _ => False
theorem Cx.Ok.wish {X : Cx} (ok : X.Ok) (E : Value → Shared → Prop) : (X.wish E).Ok :=
  ⟨ok.mod, ok.kind, ok.glob, ok.blt, ok.above, ok.inj, ok.has, ok.cab, ok.hd, ok.frames, ok.stk, ok.exf, ok.bs, ok.bsz, ok.noex, ok.exfs, ok.funs, ok.frf⟩
theorem Cx.Ok.unwish {X : Cx} {E : Value → Shared → Prop} (ok : (X.wish E).Ok) : X.Ok :=
  ⟨ok.mod, ok.kind, ok.glob, ok.blt, ok.above, ok.inj, ok.has, ok.cab, ok.hd, ok.frames, ok.stk, ok.exf, ok.bs, ok.bsz, ok.noex, ok.exfs, ok.funs, ok.frf⟩
section
variable {X : Cx} {pins : List (Addr × Obj)} {σ : St} {H : Hp} {s : Shared} {E : Value → Shared → Prop}
theorem Inv.wish (I : Inv X pins σ H s) (E : Value → Shared → Prop) : Inv (X.wish E) pins σ H s := ⟨I.ok.wish E, I.os, I.bare, I.base, I.loc, I.cell, I.free, I.freeC, I.pin, I.hok, I.len⟩
theorem Inv.unwish (I : Inv (X.wish E) pins σ H s) : Inv X pins σ H s := ⟨I.ok.unwish, I.os, I.bare, I.base, I.loc, I.cell, I.free, I.freeC, I.pin, I.hok, I.len⟩
theorem SP.unwish {D : Ends} {f : Flow} {s' : Shared} (h : SP (X.wish E) pins D f s') : SP X pins D f s' := by
  cases f with
  | next => obtain ⟨σ', H', I, q⟩ := h; exact ⟨σ', H', I.unwish, q⟩
  | brk => obtain ⟨σ', H', I, q⟩ := h; exact ⟨σ', H', I.unwish, q⟩
  | cont => obtain ⟨σ', H', I, q⟩ := h; exact ⟨σ', H', I.unwish, q⟩
  | ret u => obtain ⟨v, σ', H', I, r, q⟩ := h; exact ⟨v, σ', H', I.unwish, r, q⟩
theorem PE.nox {e : Expr} {t : TE} (h : PE X.nox e t) : PE X e t := fun pins s σ H Q I hw =>
  wpAny_mono (h pins s σ H Q (I.wish _) hw) (fun _ _ ⟨v, H', I', r, q⟩ => ⟨v, H', I'.unwish, r, q⟩) fun _ _ z => False.elim z
theorem PT.nox {e : Expr} {t : TT} (h : PT X.nox e t) : PT X e t := fun pins s σ H Q I hw =>
  wpAny_mono (h pins s σ H Q (I.wish _) hw) (fun _ _ ⟨H', I', q⟩ => ⟨H', I'.unwish, q⟩) fun _ _ z => False.elim z
theorem PSs.nox {st : List Stmt} {t : TS} (h : PSs X.nox st t) : PSs X st t := fun pins s σ H D I hw =>
  wpAny_mono (h pins s σ H D (I.wish _) hw) (fun _ _ q => q.unwish) fun _ _ z => False.elim z
end

/-! ### blocks and small statements -/
section
variable {X : Cx} {st : Stmt} {rest : List Stmt} {t u : TS} {e : Expr} {te : TE} {pos : Pos}
def tNext : TS := fun D σ H => D.nx σ H
def tSeq (t u : TS) : TS := fun D σ H => t { D with nx := u D } σ H
theorem pss_nil : PSs X [] tNext := fun _ _ σ H _ I h => wpAny_execs_nil ⟨σ, H, I, h⟩
theorem pss_cons (h1 : PS X st t) (h2 : PSs X rest u) : PSs X (st :: rest) (tSeq t u) := by
  intro pins s σ H D I h
  refine wpAny_execs_cons (thn (h1 pins s σ H { D with nx := u D } I h) fun f s1 q => ?_)
  cases f with
  | next =>
    obtain ⟨σ', H', I', q⟩ := q
    exact h2 pins s1 σ' H' D I' q
  | ret v => exact q
  | brk => exact q
  | cont => exact q
theorem pss_one (h1 : PS X st t) : PSs X [st] t := by
  intro pins s σ H D I h
  refine wpAny_execs_cons (thn (h1 pins s σ H D I h) fun f s1 q => ?_)
  cases f with
  | next => exact wpAny_execs_nil q
  | ret v => exact q
  | brk => exact q
  | cont => exact q
def tBreak : TS := fun D σ H => D.bk σ H
def tCont : TS := fun D σ H => D.ct σ H
/-- in a def's body nothing is shown -/
theorem Inv.quiet {pins : List (Addr × Obj)} {σ : St} {H : Hp} {s : Shared} (I : Inv X pins σ H s) : interactive X.env = false := by simp [interactive, I.ok.kind]
/-- an expression whose value is dropped -/
def tDrop (te : TE) : TS := fun D σ H => te σ H fun _ H1 => D.nx σ H1
theorem ps_expr (he : PE X e te) (hs : swapsWith e none pos.line X.env = pure false := by rfl) : PS X (.Expr e pos) (tDrop te) := by
  intro pins s σ H D I h
  exact wpAny_Expr_any (thn (he pins s σ H _ I h) fun v s1 ⟨x, H1, I1, r1, q1⟩ => ⟨σ, H1, I1, q1⟩) I.quiet hs
def tRet (te : TE) : TS := fun D σ H => te σ H D.rt
theorem ps_ret (he : PE X e te) : PS X (.Return (some e) pos) (tRet te) := by
  intro pins s σ H D I h
  exact wpAny_Return_some (thn (he pins s σ H _ I h) fun v s1 ⟨x, H1, I1, r1, q1⟩ => ⟨x, σ, H1, I1, r1, q1⟩)
def tRetN : TS := fun D _ H => D.rt .non H
def tIfS (c : TT) (t u : TS) : TS := fun D σ H => c σ H fun b H1 => if b = true then t D σ H1 else u D σ H1
theorem ps_if {c : Expr} {a b : List Stmt} {tc : TT} (hc : PT X c tc) (ha : PSs X a t) (hb : PSs X b u) : PS X (.If c a b pos) (tIfS tc t u) := by
  intro pins s σ H D I h
  refine wpAny_If (thn (hc pins s σ H _ I h) fun d s1 ⟨H1, I1, q1⟩ => ?_)
  cases d with
  | true => exact ha pins s1 σ H1 D I1 q1
  | false => exact hb pins s1 σ H1 D I1 q1
/-- code that the proof never comes to -/
def tNever : TS := fun _ _ _ => False
theorem ps_never : PS X st tNever := fun _ _ _ _ _ _ h => h.elim
end

/-! ### targets -/
abbrev TG := V → St → Hp → (St → Hp → Prop) → Prop
abbrev TGs := List V → St → Hp → (St → Hp → Prop) → Prop
def PG (X : Cx) (target : Expr) (t : TG) : Prop :=
  ∀ (pins : List (Addr × Obj)) (s : Shared) (σ : St) (H : Hp) (v : V) (u : Value) (Q : St → Hp → Prop), Inv X pins σ H s → RelV v u → t v σ H Q →
    wpAny (model X.prog X.w) X.A (assign target X.env u) (fun _ s' => ∃ σ' H', Inv X pins σ' H' s' ∧ Q σ' H') X.xe s
/-- several targets, one after another -/
def PGs (X : Cx) (ts : List Expr) (t : TGs) : Prop :=
  ∀ (pins : List (Addr × Obj)) (s : Shared) (σ : St) (H : Hp) (vs : List V) (us : List Value) (Q : St → Hp → Prop), Inv X pins σ H s → Vals vs us → t vs σ H Q →
    wpAny (model X.prog X.w) X.A (assignInOrder ((assignEach ts X.env).map (·.2)) us) (fun _ s' => ∃ σ' H', Inv X pins σ' H' s' ∧ Q σ' H') X.xe s
/-- o[i] = v, by values -/
abbrev TSet := V → V → V → Hp → (Hp → Prop) → Prop
def PSet (X : Cx) (t : TSet) : Prop :=
  ∀ (pins : List (Addr × Obj)) (s : Shared) (σ : St) (H : Hp) (o i v : V) (ov iv u : Value) (Q : Hp → Prop), Inv X pins σ H s → RelV o ov → RelV i iv → RelV v u → t o i v H Q →
    wpAny (model X.prog X.w) X.A (setItem ov iv u) (fun _ s' => ∃ H', Inv X pins σ H' s' ∧ Q H') X.xe s
/-- a op= b, by values -/
abbrev TIp := V → V → Hp → VK → Prop
def PIp (X : Cx) (op : Operator) (t : TIp) : Prop :=
  ∀ (pins : List (Addr × Obj)) (s : Shared) (σ : St) (H : Hp) (x y : V) (v u : Value) (Q : VK), Inv X pins σ H s → RelV x v → RelV y u → t x y H Q →
    wpAny (model X.prog X.w) X.A (inplaceOp op v u) (EP X pins σ Q) X.xe s
section
variable {X : Cx} {pos : Pos}
def gName (i : Nat) : TG := fun v σ H Q => Q (σ.set i (some v)) H
theorem pg_name {i : Nat} {x : Str} (hN : X.N.Nodup) (hi : X.N[i]? = some x) (hx : Loc X.env.scope x) (hf : X.fn x = true ∨ X.env.scope.names.lookup x = some .local := by first | exact .inl rfl | exact .inr rfl | assumption) : PG X (.Name x pos) (gName i) := by
  intro pins s σ H v u Q I r h
  exact wpAny_assign_Name (store_ok I hN hi hx r (fun s' I' => ⟨_, H, I', h⟩) hf)
def gNil : TGs := fun vs σ H Q => vs = [] ∧ Q σ H
def gCons (t : TG) (u : TGs) : TGs := fun vs σ H Q => ∃ v r, vs = v :: r ∧ t v σ H fun σ' H' => u r σ' H' Q
theorem pgs_nil : PGs X [] gNil := by
  intro pins s σ H vs us Q I r h
  obtain ⟨e, h⟩ := h
  subst e
  cases r
  exact assignInOrder_nil ⟨σ, H, I, h⟩
theorem pgs_cons {e : Expr} {es : List Expr} {t : TG} {u : TGs} (h1 : PG X e t) (h2 : PGs X es u)
    (hs : (assignEach (e :: es) X.env).map (·.2) = assign e X.env :: (assignEach es X.env).map (·.2) := by rfl) : PGs X (e :: es) (gCons t u) := by
  intro pins s σ H vs us Q I r h
  obtain ⟨v, vr, e1, h⟩ := h
  subst e1
  cases r with
  | cons r rr =>
    rw [hs]
    refine assignInOrder_cons (thn (h1 pins s σ H _ _ _ I r h) fun _ s1 ⟨σ1, H1, I1, q1⟩ => ?_)
    exact h2 pins s1 σ1 H1 _ _ Q I1 rr q1
/-- (a, b, ..) = a tuple of that length -/
def gTup (K : PySem.W.Frag) (n : Nat) (t : TGs) : TG := fun v σ H Q => ∃ a xs, v = .ref a ∧ SqT K H a xs ∧ xs.length = n ∧ t xs σ H Q
theorem pg_tup {es : List Expr} {k : Nat} {t : TGs} {n : Nat} (hc : X.calm = true) (h : PGs X es t)
    (hn : (assignEach es X.env).length = n := by rfl) (hst : (assignEach es X.env).findIdx? (·.1) = none := by rfl) : PG X (.Tuple es k pos) (gTup X.K n t) := by
  intro pins s σ H v u Q I r hw
  obtain ⟨a, xs, e1, hq, hl, hw⟩ := hw
  subst e1
  cases r
  obtain ⟨its, rv, ht, hz⟩ := I.tuple hq
  refine assign_Tuple_tuple (I.ok.hd hc) ht (by simp [hn, ← hl, rv.length]) hst fun h' hx => ?_
  have I1 : Inv X pins σ H { s with heap := h' } := I.kept (t' := s.toks) fun b o e => hx b o (Nat.ne_of_lt (Heap.lt_size e)) e
  exact h pins _ σ H xs _ Q I1 (by simpa using rv) hw
/-- o[i] = .. -/
def gSub (to ti : TE) (t : TSet) : TG := fun v σ H Q => to σ H fun o H1 => ti σ H1 fun i H2 => t o i v H2 fun H3 => Q σ H3
/-- target = value -/
def tAsg (te : TE) (g : TG) : TS := fun D σ H => te σ H fun x H1 => g x σ H1 D.nx
/-- name = value -/
theorem ps_set {i : Nat} {x : Str} {e : Expr} {te : TE} {pos' : Pos} (hN : X.N.Nodup) (hi : X.N[i]? = some x) (hx : Loc X.env.scope x) (he : PE X e te) (hs : swapsWith e (some (.Name x pos')) pos.line X.env = pure false := by rfl) (hf : X.fn x = true ∨ X.env.scope.names.lookup x = some .local := by first | exact .inl rfl | exact .inr rfl | assumption) :
    PS X (.Assign [.Name x pos'] e pos) (tAsg te (gName i)) := by
  intro pins s σ H D I h
  refine wpAny_Assign_Name (thn (he pins s σ H _ I h) fun v s1 ⟨y, H1, I1, r1, q1⟩ => ?_) hs
  exact store_ok I1 hN hi hx r1 (fun s2 I2 => ⟨_, H1, I2, q1⟩) hf
/-- a, b = x, y with plain local names: stored from the right; the pair itself is not tracked (the opening rows as in PyProof/Rows/TupAssign.lean:23) -/
def tPar (i j : Nat) (ta : TA) : TS := fun D σ H => ta σ H fun vs H1 => ∃ v w, vs = [v, w] ∧ D.nx ((σ.set i (some v)).set j (some w)) H1
/-- name op= e -/
def tAug (i : Nat) (te : TE) (ti : TIp) : TS := fun D σ H => ∃ x, σ[i]? = some (some x) ∧ te σ H fun y H1 => ti x y H1 fun z H2 => D.nx (σ.set i (some z)) H2
/-- o[i] op= e -/
def tAugS (to ti te : TE) (tget : V → V → Hp → VK → Prop) (tip : TIp) (tset : TSet) : TS := fun D σ H => to σ H fun o H1 => ti σ H1 fun i H2 => tget o i H2 fun x H3 => te σ H3 fun y H4 => tip x y H4 fun z H5 => tset o i z H5 fun H6 => D.nx σ H6
/-- o[i], by values -/
def PGet (X : Cx) (t : V → V → Hp → VK → Prop) : Prop :=
  ∀ (pins : List (Addr × Obj)) (s : Shared) (σ : St) (H : Hp) (o i : V) (ov iv : Value) (Q : VK), Inv X pins σ H s → RelV o ov → RelV i iv → t o i H Q →
    wpAny (model X.prog X.w) X.A (getItem ov iv) (EP X pins σ Q) X.xe s
/-- ints -/
def ipI (f : Int → Int → Int) : TIp := fun x y H Q => ∃ i j, x = .int i ∧ y = .int j ∧ Q (.int (f i j)) H
end

/-! ### while -/
section
variable {X : Cx} {pos : Pos}
/-- the invariant W with its measure -/
def tWhile (c : TT) (tb : TS) : TS := fun D σ H => ∃ W : Nat → St → Hp → Prop, (∃ m, W m σ H) ∧ ∀ m σ H, W m σ H →
  c σ H fun b H1 => if b = true then ∃ N : St → Hp → Prop, (∀ σ' H', N σ' H' → ∃ m', m' < m ∧ W m' σ' H') ∧ tb { D with nx := N, ct := N, bk := D.nx } σ H1 else D.nx σ H1
end

/-! ### what a loop or a comprehension walks -/
/-- at turn i: it yields x (the heap may grow), or it stops -/
structure It where
  go : Nat → Hp → Prop
  yld : Nat → Hp → V → Hp → Prop
  stop : Nat → Hp → Prop
/-- the iterator's own objects may turn: they are not the frame's, not pinned, younger than the entry (or a comprehension's own) -/
def FpOk (X : Cx) (pins : List (Addr × Obj)) (H : Hp) (b : Addr) : Prop :=
  H b = none ∧ b ≠ X.env.locals ∧ b ∉ X.fs ∧ (b ∈ X.ex ∨ X.s₀.heap.objs.size ≤ b) ∧ (∀ x c, X.env.cells.lookup x = some c → c ≠ b) ∧ ∀ p ∈ X.pn ++ pins, p.1 ≠ b
theorem Inv.fpOk {X : Cx} {pins : List (Addr × Obj)} {σ : St} {H H' : Hp} {s : Shared} {b : Addr} (I : Inv X pins σ H s) (hb : s.heap.objs.size ≤ b) (hn : H' b = none) : FpOk X pins H' b := by
  refine ⟨hn, Nat.ne_of_gt (Nat.lt_of_lt_of_le I.lt hb), I.nofs hb, .inr (Nat.le_trans I.sz hb), fun x c e z => ?_, fun p hp z => ?_⟩
  · obtain ⟨v, q⟩ := I.cell x c e
    exact absurd (Nat.lt_of_lt_of_le q.lt (by rw [z]; exact hb)) (Nat.lt_irrefl _)
  · exact absurd (Nat.lt_of_lt_of_le (Heap.lt_size (I.pin p hp).1) (by rw [z]; exact hb)) (Nat.lt_irrefl _)
structure Turn (P : Program) (w : World) (K : PySem.W.Frag) (tg : Expr) (J : It) (fp : List Addr) (it : Addr) (tn : Nat → Heap → Prop) : Prop where
  mem : it ∈ fp
  obj : ∀ i h, tn i h → ∀ b ∈ fp, ∃ o, h.get? b = some o ∧ ∀ v, o.data ≠ .cell v
  keep : ∀ i h h', tn i h → (∀ b ∈ fp, ∀ o, h.get? b = some o → h'.get? b = some o) → tn i h'
  item : ∀ (X : Cx), X.prog = P → X.w = w → X.K = K → X.calm = true → ∀ (i : Nat) (pins : List (Addr × Obj)) (s : Shared) (σ : St) (H : Hp) (E : Value → Shared → Prop), Inv X pins σ H s → (∀ b ∈ fp, FpOk X pins H b) → tn i s.heap → J.go i H →
    wpAny (model P w) X.A (pyNext (.ref it)) (fun r s1 => ∃ u, r = some u ∧
      wpAny (model P w) X.A (letOwnedTupleGo tg (.ref it) u) (fun _ s2 => ∃ x H', Inv X pins σ H' s2 ∧ RelV x u ∧ J.yld i H x H' ∧ tn (i + 1) s2.heap ∧ ∀ b ∈ fp, H' b = none) E s1) E s
  done : ∀ (X : Cx), X.prog = P → X.w = w → X.K = K → X.calm = true → ∀ (i : Nat) (pins : List (Addr × Obj)) (s : Shared) (σ : St) (H : Hp) (E : Value → Shared → Prop), Inv X pins σ H s → (∀ b ∈ fp, FpOk X pins H b) → tn i s.heap → J.stop i H →
    wpAny (model P w) X.A (pyNext (.ref it)) (fun r s1 => r = none ∧ Inv X pins σ H s1) E s
  self : ∀ (A : Around) (i : Nat) (s : Shared) (Q : Value → Shared → Prop) (E : Value → Shared → Prop), tn i s.heap → Q (.ref it) s → wpAny (model P w) A (pyIter (.ref it)) Q E s
abbrev TI := St → Hp → (It → Hp → Prop) → Prop
/-- an iterator has come -/
def PIE (X : Cx) (pins : List (Addr × Obj)) (σ : St) (tg : Expr) (R : It → Hp → Prop) (itv : Value) (s2 : Shared) : Prop :=
  ∃ (it : Addr) (fp : List Addr) (tn : Nat → Heap → Prop) (J : It) (H' : Hp), itv = .ref it ∧ Inv X pins σ H' s2 ∧ Turn X.prog X.w X.K tg J fp it tn ∧ tn 0 s2.heap ∧ (∀ b ∈ fp, FpOk X pins H' b) ∧ R J H'
def PI (X : Cx) (tg iter : Expr) (wi : TI) : Prop :=
  ∀ (pins : List (Addr × Obj)) (s : Shared) (σ : St) (H : Hp) (R : It → Hp → Prop), Inv X pins σ H s → wi σ H R →
    wpAny (model X.prog X.w) X.A (eval iter X.env) (fun v s1 => wpAny (model X.prog X.w) X.A (pyIter v) (PIE X pins σ tg R) X.xe s1) X.xe s

/-- the step ahead of the store is nothing for an iterator that keeps no tuple -/
theorem go_of {M : Model} {A : Around} {E : Value → Shared → Prop} {s : Shared} {tg : Expr} {it : Addr} {u : Value} {o : Obj} {n : String} {vs : Array Value} {Q : Unit → Shared → Prop} (ho : s.heap.get? it = some o) (hc : o.cls = .type n) (hd : o.data = .fields vs)
    (hn : ["enumerate", "zip", "dict_itemiterator", "dict_reverseitemiterator", "odict_iterator", "itertools.zip_longest", "itertools.pairwise"].contains n = false) (hQ : Q () s) : wpAny M A (letOwnedTupleGo tg (.ref it) u) Q E s := by
  unfold letOwnedTupleGo
  cases tg <;> first
    | exact wpAny_pure hQ
    | (cases u <;> first
        | exact wpAny_pure hQ
        | (refine wpAny_bind (wpAny_load ho ?_)
           rw [hc, hd]
           show wpAny M A (if (["enumerate", "zip", "dict_itemiterator", "dict_reverseitemiterator", "odict_iterator", "itertools.zip_longest", "itertools.pairwise"].contains n && vs[0]? == some (rawInt _)) = true then _ else _) Q E s
           rw [if_neg (by intro h; rw [hn, Bool.false_and] at h; cases h)]
           exact wpAny_pure hQ))

/-- the list at a, as it stands at each turn (a loop may append to it) -/
def Itl (K : PySem.W.Frag) (a : Addr) : It :=
  ⟨fun i H => ∃ xs x, SqL K H a xs ∧ xs[i]? = some x, fun i H x H' => H' = H ∧ ∀ xs, SqL K H a xs → xs[i]? = some x, fun i H => ∃ xs, SqL K H a xs ∧ xs.length ≤ i⟩
def Itt (K : PySem.W.Frag) (a : Addr) : It :=
  ⟨fun i H => ∃ xs x, SqT K H a xs ∧ xs[i]? = some x, fun i H x H' => H' = H ∧ ∀ xs, SqT K H a xs → xs[i]? = some x, fun i H => ∃ xs, SqT K H a xs ∧ xs.length ≤ i⟩
/-- lo, lo + 1, .. (n of them) -/
def Itr (lo : Int) (n : Nat) : It := ⟨fun i _ => i < n, fun i H x H' => H' = H ∧ x = .int (lo + i), fun i _ => n ≤ i⟩
theorem turn_list {P : Program} {w : World} {K : PySem.W.Frag} {tg : Expr} (a it : Addr) : Turn P w K tg (Itl K a) [it] it (fun i h => h.IsListIter it a i) where
  mem := by simp
  obj := fun i h st b hb => by
    have e : b = it := by simpa using hb
    subst e
    obtain ⟨o, e, c, d⟩ := st
    exact ⟨o, e, fun v z => by rw [d] at z; cases z⟩
  keep := fun i h h' st k => st.at fun o e => k it (by simp) o e
  item := by
    intro X hP hw hK hc i pins s σ H E I hf st hg
    subst hP hw hK
    obtain ⟨xs, x, hq, hx⟩ := hg
    obtain ⟨its, rv, p, hz⟩ := I.list hq
    obtain ⟨u, hu, ru⟩ := rv.get hx
    obtain ⟨f0, f1, f2, f3, f4, f5⟩ := hf it (by simp)
    refine wpAny_pyNext_list_item st p.isList (x := u) (by simpa using hu) fun h' st' sb => ?_
    have I1 : Inv X pins σ H { s with heap := h' } := I.turned (t' := s.toks) (fun b o hb e => (sb.2 b hb).trans e) f0 f1 f3 f4 f5
    obtain ⟨o, e, c, d⟩ := id st'
    exact ⟨u, rfl, go_of (s := { s with heap := h' }) e c d (by decide) ⟨x, H, I1, ru, ⟨rfl, fun ys hy => by rw [I.list_inj hy hq]; exact hx⟩, st', fun b hb => (hf b hb).1⟩⟩
  done := by
    intro X hP hw hK hc i pins s σ H E I hf st hg
    subst hP hw hK
    obtain ⟨xs, hq, hx⟩ := hg
    obtain ⟨its, rv, p, hz⟩ := I.list hq
    obtain ⟨f0, f1, f2, f3, f4, f5⟩ := hf it (by simp)
    have hl := rv.length
    exact wpAny_pyNext_list_end (I.ok.hd hc) st p.isList (by simp; omega) fun h' eb => ⟨rfl, I.turned (t' := s.toks) (fun b o hb e => eb b o hb e) f0 f1 f3 f4 f5⟩
  self := fun _ _ _ _ _ st h => wpAny_pyIter_listiter st h
theorem turn_tuple {P : Program} {w : World} {K : PySem.W.Frag} {tg : Expr} (a it : Addr) : Turn P w K tg (Itt K a) [it] it (fun i h => h.IsTupleIter it a i) where
  mem := by simp
  obj := fun i h st b hb => by
    have e : b = it := by simpa using hb
    subst e
    obtain ⟨o, e, c, d⟩ := st
    exact ⟨o, e, fun v z => by rw [d] at z; cases z⟩
  keep := fun i h h' st k => st.at fun o e => k it (by simp) o e
  item := by
    intro X hP hw hK hc i pins s σ H E I hf st hg
    subst hP hw hK
    obtain ⟨xs, x, hq, hx⟩ := hg
    obtain ⟨its, rv, p, hz⟩ := I.tuple hq
    obtain ⟨u, hu, ru⟩ := rv.get hx
    obtain ⟨f0, f1, f2, f3, f4, f5⟩ := hf it (by simp)
    refine wpAny_pyNext_tuple_item st (show s.heap.IsTuple a its.toArray from p) (x := u) (by simpa using hu) fun h' st' sb => ?_
    have I1 : Inv X pins σ H { s with heap := h' } := I.turned (t' := s.toks) (fun b o hb e => (sb.2 b hb).trans e) f0 f1 f3 f4 f5
    obtain ⟨o, e, c, d⟩ := id st'
    exact ⟨u, rfl, go_of (s := { s with heap := h' }) e c d (by decide) ⟨x, H, I1, ru, ⟨rfl, fun ys hy => by rw [I.tuple_inj hy hq]; exact hx⟩, st', fun b hb => (hf b hb).1⟩⟩
  done := by
    intro X hP hw hK hc i pins s σ H E I hf st hg
    subst hP hw hK
    obtain ⟨xs, hq, hx⟩ := hg
    obtain ⟨its, rv, p, hz⟩ := I.tuple hq
    obtain ⟨f0, f1, f2, f3, f4, f5⟩ := hf it (by simp)
    have hl := rv.length
    exact wpAny_pyNext_tuple_end (I.ok.hd hc) st (show s.heap.IsTuple a its.toArray from p) (by simp; omega) fun h' eb => ⟨rfl, I.turned (t' := s.toks) (fun b o hb e => eb b o hb e) f0 f1 f3 f4 f5⟩
  self := fun _ _ _ _ _ st h => wpAny_pyIter_tupleiter st h
theorem turn_range {P : Program} {w : World} {K : PySem.W.Frag} {tg : Expr} (it : Addr) (lo : Int) (n : Nat) : Turn P w K tg (Itr lo n) [it] it (fun i h => IsRangeIter h it (lo + (i : Nat) * 1) ((n : Int) - (i : Nat)) 1) where
  mem := by simp
  obj := fun i h st b hb => by
    have e : b = it := by simpa using hb
    subst e
    exact ⟨_, st, fun v z => by
      have z' : Data.fields _ = Data.cell v := z
      cases z'⟩
  keep := fun i h h' st k => k it (by simp) _ st
  item := by
    intro X hP hw hK hc i pins s σ H E I hf st hg
    subst hP hw hK
    obtain ⟨f0, f1, f2, f3, f4, f5⟩ := hf it (by simp)
    have W := Walks.range (prog := X.prog) (w := X.w) (I.ok.hd hc) it lo 1 n
    refine W.item i s _ _ hg st fun v h' tk hv st' kk => ?_
    obtain ⟨t, rfl⟩ := hv
    have I1 : Inv X pins σ H { s with heap := h', toks := tk } := I.turned (fun b o hb e => kk b o (by simpa using hb) e) f0 f1 f3 f4 f5
    refine ⟨_, rfl, go_of (s := { s with heap := h', toks := tk }) (n := "range_iterator") st' rfl rfl (by decide) ⟨.int (lo + i), H, I1, ⟨t, ?_⟩, ⟨rfl, rfl⟩, st', fun b hb => (hf b hb).1⟩⟩
    rw [Int.mul_one]
  done := by
    intro X hP hw hK hc i pins s σ H E I hf st hg
    subst hP hw hK
    obtain ⟨f0, f1, f2, f3, f4, f5⟩ := hf it (by simp)
    exact wpAny_pyNext_range_end (I.ok.hd hc) st (by have : n ≤ i := hg; omega) fun h' eb => ⟨rfl, I.turned (t' := s.toks) (fun b o hb e => eb b o hb e) f0 f1 f3 f4 f5⟩
  self := fun _ _ _ _ _ st h => wpAny_pyIter_rangeiter st h
end L2

namespace L2
open PySem PySem.Spec PyProof.Rows
section
variable {X : Cx} {tg : Expr}
def iList (K : PySem.W.Frag) (tl : TE) : TI := fun σ H R => tl σ H fun x H1 => ∃ a, x = .ref a ∧ (∃ xs, SqL K H1 a xs) ∧ R (Itl K a) H1
def iTup (K : PySem.W.Frag) (tl : TE) : TI := fun σ H R => tl σ H fun x H1 => ∃ a, x = .ref a ∧ (∃ xs, SqT K H1 a xs) ∧ R (Itt K a) H1
theorem pi_list {l : Expr} {tl : TE} (hl : PE X l tl) : PI X tg l (iList X.K tl) := by
  intro pins s σ H R I h
  refine thn (hl pins s σ H _ I h) fun v s1 ⟨x, H1, I1, r1, q1⟩ => ?_
  obtain ⟨a, e, ⟨xs, hq⟩, q⟩ := q1
  subst e
  cases r1
  obtain ⟨its, rv, p, hz⟩ := I1.list hq
  refine wpAny_pyIter_list p.isList ?_
  refine ⟨s1.heap.objs.size, [s1.heap.objs.size], _, _, H1, rfl, I1.kept (t' := s1.toks) fun b o e => Heap.get?_push_of_some _ e, turn_list a _, ⟨_, Heap.get?_push_size _ rfl, rfl, rfl⟩, fun b hb => ?_, q⟩
  have e : b = s1.heap.objs.size := by simpa using hb
  subst e
  exact I1.fpOk (Nat.le_refl _) (I1.hok.fresh (Nat.le_refl _))
theorem pi_tup {l : Expr} {tl : TE} (hl : PE X l tl) : PI X tg l (iTup X.K tl) := by
  intro pins s σ H R I h
  refine thn (hl pins s σ H _ I h) fun v s1 ⟨x, H1, I1, r1, q1⟩ => ?_
  obtain ⟨a, e, ⟨xs, hq⟩, q⟩ := q1
  subst e
  cases r1
  obtain ⟨its, rv, p, hz⟩ := I1.tuple hq
  refine wpAny_pyIter_tuple (show s1.heap.IsTuple a its.toArray from p) ?_
  refine ⟨s1.heap.objs.size, [s1.heap.objs.size], _, _, H1, rfl, I1.kept (t' := s1.toks) fun b o e => Heap.get?_push_of_some _ e, turn_tuple a _, ⟨_, Heap.get?_push_size _ rfl, rfl, rfl⟩, fun b hb => ?_, q⟩
  have e : b = s1.heap.objs.size := by simpa using hb
  subst e
  exact I1.fpOk (Nat.le_refl _) (I1.hok.fresh (Nat.le_refl _))
/-- a range object just made, walked -/
theorem range_it {pins : List (Addr × Obj)} {σ : St} {H : Hp} {s : Shared} {R : It → Hp → Prop} {E : Value → Shared → Prop} {lo hi : Int} {t u v : Tok} {tk : Nat} (I : Inv X pins σ H s) (h1 : -(2 ^ 62) ≤ lo) (h2 : lo < 2 ^ 62) (h3 : -(2 ^ 62) ≤ hi) (h4 : hi < 2 ^ 62)
    (q : R (Itr lo (hi - lo).toNat) H) : wpAny (model X.prog X.w) X.A (pyIter (.ref s.heap.objs.size)) (PIE X pins σ tg R) E { s with heap := s.heap.push { cls := .type "range", data := .fields #[.int lo t, .int hi u, .int 1 v] }, toks := tk } := by
  refine wpAny_pyIter_range (IsRange.new ..) (small_one h1 h2 h3 h4) ?_
  have I1 : Inv X pins σ H { s with heap := s.heap.push { cls := .type "range", data := .fields #[.int lo t, .int hi u, .int 1 v] }, toks := tk } := I.kept fun b o e => Heap.get?_push_of_some _ e
  refine ⟨(s.heap.push { cls := .type "range", data := .fields #[.int lo t, .int hi u, .int 1 v] }).objs.size, [(s.heap.push { cls := .type "range", data := .fields #[.int lo t, .int hi u, .int 1 v] }).objs.size], _, _, H, rfl,
    I1.kept (t' := tk) fun b o e => Heap.get?_push_of_some _ e, turn_range _ lo (hi - lo).toNat, ?_, fun b hb => ?_, q⟩
  · have e1 : lo + ((0 : Nat) : Int) * 1 = lo := by simp
    have e2 : (((hi - lo).toNat : Nat) : Int) - ((0 : Nat) : Int) = Builtin.Range.rangeSize lo hi 1 := by rw [rangeSize_one]; split <;> omega
    show IsRangeIter _ _ (lo + ((0 : Nat) : Int) * 1) ((((hi - lo).toNat : Nat) : Int) - ((0 : Nat) : Int)) 1
    rw [e1, e2]
    exact Heap.get?_push_size _ rfl
  · have e : b = (s.heap.push { cls := .type "range", data := .fields #[.int lo t, .int hi u, .int 1 v] }).objs.size := by simpa using hb
    subst e
    exact I1.fpOk (Nat.le_refl _) (I1.hok.fresh (Nat.le_refl _))
def iRng1 (ta : TA) : TI := fun σ H R => ta σ H fun vs H1 => ∃ j : Int, vs = [.int j] ∧ -(2 ^ 62) ≤ j ∧ j < 2 ^ 62 ∧ R (Itr 0 j.toNat) H1
def iRng2 (ta : TA) : TI := fun σ H R => ta σ H fun vs H1 => ∃ i j : Int, vs = [.int i, .int j] ∧ (-(2 ^ 62) ≤ i ∧ i < 2 ^ 62 ∧ -(2 ^ 62) ≤ j ∧ j < 2 ^ 62) ∧ R (Itr i (j - i).toNat) H1
theorem pi_range1 {a : Expr} {ta : TA} {p pos : Pos} (hg : Gl X "range") (hm : X.mg "range" = none) (ha : PA X [a] ta) (hs : starEach [a] X.env = [(false, eval a X.env)] := by rfl) : PI X tg (.Call (.Name "range" p) [a] [] pos) (iRng1 ta) := by
  intro pins s σ H R I h
  refine Call_ (ld_blt I hg hm boot_range (PyProof.Rows.callWith_type1 (thn (ha pos pins s σ H _ I h) fun us s1 ⟨vs, H1, I1, r1, q1⟩ => ?_) hs rfl))
  obtain ⟨j, e, q1, q2, q⟩ := q1
  subst e
  cases r1 with
  | cons r rr =>
    cases rr
    obtain ⟨t, rfl⟩ := r
    exact call_range_1 (range_it I1 (by omega) (by omega) q1 q2 (by simpa using q))
theorem pi_range2 {a b : Expr} {ta : TA} {p pos : Pos} (hg : Gl X "range") (hm : X.mg "range" = none) (ha : PA X [a, b] ta) (hs : starEach [a, b] X.env = [(false, eval a X.env), (false, eval b X.env)] := by rfl) (hs2 : starEach [b] X.env = [(false, eval b X.env)] := by rfl) :
    PI X tg (.Call (.Name "range" p) [a, b] [] pos) (iRng2 ta) := by
  intro pins s σ H R I h
  refine Call_ (ld_blt I hg hm boot_range (PyProof.Rows.callWith_type1 (thn (ha pos pins s σ H _ I h) fun us s1 ⟨vs, H1, I1, r1, q1⟩ => ?_) (by rw [hs, hs2]) (by rw [hs2]; rfl)))
  obtain ⟨i, j, e, ⟨q1, q2, q3, q4⟩, q⟩ := q1
  subst e
  cases r1 with
  | cons r rr =>
    cases rr with
    | cons r' rr =>
      cases rr
      obtain ⟨t, rfl⟩ := r
      obtain ⟨t', rfl⟩ := r'
      exact call_range_2 (range_it I1 q1 q2 q3 q4 q)

/-! ### for -/
/-- W: the invariant by the turn and a measure; N: what the body is to reach -/
def tFor (wi : TI) (g : TG) (tb : TS) : TS := fun D σ H => wi σ H fun J H1 => ∃ W : Nat → Nat → St → Hp → Prop, (∃ m, W 0 m σ H1) ∧ ∀ i m σ H, W i m σ H →
  (J.stop i H ∧ D.nx σ H) ∨ (J.go i H ∧ ∃ N : St → Hp → Prop, (∀ σ' H', N σ' H' → ∃ m', m' < m ∧ W (i + 1) m' σ' H') ∧ ∀ x H', J.yld i H x H' → g x σ H' fun σ2 H2 => tb { D with nx := N, ct := N, bk := D.nx } σ2 H2)
/-- the records at fp as they stand -/
def pinsAt (fp : List Addr) (h : Heap) : List (Addr × Obj) := fp.filterMap fun b => (h.get? b).map fun o => (b, o)
theorem mem_pinsAt {fp : List Addr} {h : Heap} {b : Addr} {o : Obj} (hb : b ∈ fp) (e : h.get? b = some o) : (b, o) ∈ pinsAt fp h := List.mem_filterMap.mpr ⟨b, hb, by rw [e]; rfl⟩
theorem of_pinsAt {fp : List Addr} {h : Heap} {p : Addr × Obj} (hp : p ∈ pinsAt fp h) : p.1 ∈ fp ∧ h.get? p.1 = some p.2 := by
  obtain ⟨b, hb, e⟩ := List.mem_filterMap.mp hp
  cases q : h.get? b with
  | none => rw [q] at e; cases e
  | some o =>
    rw [q] at e
    have e' : (b, o) = p := Option.some.inj e
    subst e'
    exact ⟨hb, q⟩
theorem Inv.pinned {pins : List (Addr × Obj)} {σ : St} {H : Hp} {s : Shared} {fp : List Addr} (I : Inv X pins σ H s) (hf : ∀ b ∈ fp, FpOk X pins H b) (ho : ∀ b ∈ fp, ∃ o, s.heap.get? b = some o ∧ ∀ v, o.data ≠ .cell v) : Inv X (pins ++ pinsAt fp s.heap) σ H s :=
  I.pins_of fun p hp => (List.mem_append.mp hp).elim (fun z => I.pin p (List.mem_append_right _ z)) fun z => by
    obtain ⟨hb, e⟩ := of_pinsAt z
    obtain ⟨f0, f1, f2, _⟩ := hf p.1 hb
    obtain ⟨o, e', d⟩ := ho p.1 hb
    rw [e] at e'; cases e'
    exact ⟨e, f0, f1, f2, d⟩
theorem Inv.unpinned {pins pl : List (Addr × Obj)} {σ : St} {H : Hp} {s : Shared} (I : Inv X (pins ++ pl) σ H s) : Inv X pins σ H s := I.pins_of fun p hp => I.pin p (List.mem_append_right _ (List.mem_append_left _ hp))
theorem ps_for {iter : Expr} {body : List Stmt} {wi : TI} {g : TG} {tb : TS} {pos : Pos} (hp : PassesOwn (model X.prog X.w) X.A X.env X.xe) (hc : X.calm = true) (hi : PI X tg iter wi) (hg : PG X tg g) (hb : PSs X body tb)
    (hs : ∀ x, foldedSetIterable iter X.env x = pure x := by intro _; rfl) : PS X (.For tg iter body [] pos) (tFor wi g tb) := by
  intro pins s σ H D I h
  refine wpAny_For (thn (hi pins s σ H _ I h) fun v s1 h1 => thn h1 fun itv s2 h2 => ?_) hs
  obtain ⟨it, fp, tn, J, H2, e, I2, T, st2, f2, W, ⟨m0, w0⟩, turn⟩ := h2
  subst e
  -- what stays true of the iterator's objects through the loop
  have stat : ∀ {H' : Hp}, (∀ b ∈ fp, H' b = none) → ∀ b ∈ fp, FpOk X pins H' b := fun hn b hb => ⟨hn b hb, (f2 b hb).2⟩
  refine codeAny_forLoop_any (fun n s' => ∃ i σ' H', Inv X pins σ' H' s' ∧ tn i s'.heap ∧ (∀ b ∈ fp, H' b = none) ∧ W i n σ' H') ?_ m0 ⟨0, σ, H2, I2, st2, fun b hb => (f2 b hb).1, w0⟩
  rintro n s3 ⟨i, σ3, H3, I3, st3, fr3, w3⟩
  rcases turn i n σ3 H3 w3 with ⟨stop, qn⟩ | ⟨go, N, hN, step⟩
  · refine wpAny_passesOwn hp (thn (T.done X rfl rfl rfl hc i pins s3 σ3 H3 X.xe I3 (stat fr3) st3 stop) fun r s4 ⟨hr, I4⟩ => ?_)
    subst hr
    exact wpAny_execs_nil ⟨σ3, H3, I4, qn⟩
  · refine wpAny_passesOwn hp (thn (T.item X rfl rfl rfl hc i pins s3 σ3 H3 X.xe I3 (stat fr3) st3 go) fun r s4 ⟨u, hr, h4⟩ => ?_)
    subst hr
    refine wpAny_passesOwn hp (thn h4 fun _ s5 ⟨x, H5, I5, r5, y5, st5, fr5⟩ => ?_)
    have I5' := I5.pinned (stat fr5) (T.obj _ _ st5)
    refine wpAny_passesOwn hp (thn (hg _ s5 σ3 H5 x u _ I5' r5 (step x H5 y5)) fun _ s6 ⟨σ6, H6, I6, q6⟩ => ?_)
    refine wpAny_passesOwn hp (thn (hb _ s6 σ6 H6 _ I6 q6) fun f s7 q7 => ?_)
    have again : ∀ {σ7 : St} {H7 : Hp}, Inv X (pins ++ pinsAt fp s5.heap) σ7 H7 s7 → N σ7 H7 → ∃ m, m < n ∧ ∃ i σ' H', Inv X pins σ' H' s7 ∧ tn i s7.heap ∧ (∀ b ∈ fp, H' b = none) ∧ W i m σ' H' := fun {σ7 H7} I7 n7 => by
      obtain ⟨m', hm, w7⟩ := hN σ7 H7 n7
      refine ⟨m', hm, i + 1, σ7, H7, I7.unpinned, T.keep _ _ _ st5 fun b hb o e => (I7.pin (b, o) (List.mem_append_right _ (List.mem_append_right _ (mem_pinsAt hb e)))).1, fun b hb => ?_, w7⟩
      obtain ⟨o, e, d⟩ := T.obj _ _ st5 b hb
      exact (I7.pin (b, o) (List.mem_append_right _ (List.mem_append_right _ (mem_pinsAt hb e)))).2.1
    cases f with
    | next => obtain ⟨σ7, H7, I7, n7⟩ := q7; exact again I7 n7
    | cont => obtain ⟨σ7, H7, I7, n7⟩ := q7; exact again I7 n7
    | brk => obtain ⟨σ7, H7, I7, q7⟩ := q7; exact ⟨σ7, H7, I7.unpinned, q7⟩
    | ret v => obtain ⟨x7, σ7, H7, I7, r7, q7⟩ := q7; exact ⟨x7, σ7, H7, I7.unpinned, r7, q7⟩
end

/-! ### the forms one uses -/
/-- over a list that the body leaves as it is -/
theorem for_list {K : PySem.W.Frag} {a : Addr} {xs : List V} {g : TG} {tb : TS} {D : Ends} {σ : St} {H : Hp} (Pv : Nat → St → Hp → Prop) (h0 : Pv 0 σ H) (hl : ∀ i σ H, i ≤ xs.length → Pv i σ H → SqL K H a xs)
    (hs : ∀ i x σ H, xs[i]? = some x → Pv i σ H → g x σ H fun σ2 H2 => tb { D with nx := Pv (i + 1), ct := Pv (i + 1), bk := D.nx } σ2 H2) (hd : ∀ σ H, Pv xs.length σ H → D.nx σ H) :
    ∃ W : Nat → Nat → St → Hp → Prop, (∃ m, W 0 m σ H) ∧ ∀ i m σ H, W i m σ H →
      ((Itl K a).stop i H ∧ D.nx σ H) ∨ ((Itl K a).go i H ∧ ∃ N : St → Hp → Prop, (∀ σ' H', N σ' H' → ∃ m', m' < m ∧ W (i + 1) m' σ' H') ∧ ∀ x H', (Itl K a).yld i H x H' → g x σ H' fun σ2 H2 => tb { D with nx := N, ct := N, bk := D.nx } σ2 H2) := by
  refine ⟨fun i m σ H => m = xs.length - i ∧ i ≤ xs.length ∧ Pv i σ H, ⟨xs.length, by simp, Nat.zero_le _, h0⟩, ?_⟩
  rintro i m σ H ⟨rfl, hi, p⟩
  have q := hl i σ H hi p
  by_cases hlt : i < xs.length
  · refine .inr ⟨⟨xs, xs[i], q, by simp [hlt]⟩, Pv (i + 1), fun σ' H' p' => ⟨xs.length - (i + 1), by omega, rfl, hlt, p'⟩, fun x H' y => ?_⟩
    obtain ⟨e, y⟩ := y
    subst e
    exact hs i x σ _ (y xs q) p
  · have e : i = xs.length := by omega
    subst e
    exact .inl ⟨⟨xs, q, Nat.le_refl _⟩, hd σ H p⟩
theorem for_tup {K : PySem.W.Frag} {a : Addr} {xs : List V} {g : TG} {tb : TS} {D : Ends} {σ : St} {H : Hp} (Pv : Nat → St → Hp → Prop) (h0 : Pv 0 σ H) (hl : ∀ i σ H, i ≤ xs.length → Pv i σ H → SqT K H a xs)
    (hs : ∀ i x σ H, xs[i]? = some x → Pv i σ H → g x σ H fun σ2 H2 => tb { D with nx := Pv (i + 1), ct := Pv (i + 1), bk := D.nx } σ2 H2) (hd : ∀ σ H, Pv xs.length σ H → D.nx σ H) :
    ∃ W : Nat → Nat → St → Hp → Prop, (∃ m, W 0 m σ H) ∧ ∀ i m σ H, W i m σ H →
      ((Itt K a).stop i H ∧ D.nx σ H) ∨ ((Itt K a).go i H ∧ ∃ N : St → Hp → Prop, (∀ σ' H', N σ' H' → ∃ m', m' < m ∧ W (i + 1) m' σ' H') ∧ ∀ x H', (Itt K a).yld i H x H' → g x σ H' fun σ2 H2 => tb { D with nx := N, ct := N, bk := D.nx } σ2 H2) := by
  refine ⟨fun i m σ H => m = xs.length - i ∧ i ≤ xs.length ∧ Pv i σ H, ⟨xs.length, by simp, Nat.zero_le _, h0⟩, ?_⟩
  rintro i m σ H ⟨rfl, hi, p⟩
  have q := hl i σ H hi p
  by_cases hlt : i < xs.length
  · refine .inr ⟨⟨xs, xs[i], q, by simp [hlt]⟩, Pv (i + 1), fun σ' H' p' => ⟨xs.length - (i + 1), by omega, rfl, hlt, p'⟩, fun x H' y => ?_⟩
    obtain ⟨e, y⟩ := y
    subst e
    exact hs i x σ _ (y xs q) p
  · have e : i = xs.length := by omega
    subst e
    exact .inl ⟨⟨xs, q, Nat.le_refl _⟩, hd σ H p⟩
theorem for_range {lo : Int} {n : Nat} {g : TG} {tb : TS} {D : Ends} {σ : St} {H : Hp} (Pv : Nat → St → Hp → Prop) (h0 : Pv 0 σ H)
    (hs : ∀ i σ H, i < n → Pv i σ H → g (.int (lo + i)) σ H fun σ2 H2 => tb { D with nx := Pv (i + 1), ct := Pv (i + 1), bk := D.nx } σ2 H2) (hd : ∀ σ H, Pv n σ H → D.nx σ H) :
    ∃ W : Nat → Nat → St → Hp → Prop, (∃ m, W 0 m σ H) ∧ ∀ i m σ H, W i m σ H →
      ((Itr lo n).stop i H ∧ D.nx σ H) ∨ ((Itr lo n).go i H ∧ ∃ N : St → Hp → Prop, (∀ σ' H', N σ' H' → ∃ m', m' < m ∧ W (i + 1) m' σ' H') ∧ ∀ x H', (Itr lo n).yld i H x H' → g x σ H' fun σ2 H2 => tb { D with nx := N, ct := N, bk := D.nx } σ2 H2) := by
  refine ⟨fun i m σ H => m = n - i ∧ i ≤ n ∧ Pv i σ H, ⟨n, by simp, Nat.zero_le _, h0⟩, ?_⟩
  rintro i m σ H ⟨rfl, hi, p⟩
  by_cases hlt : i < n
  · refine .inr ⟨hlt, Pv (i + 1), fun σ' H' p' => ⟨n - (i + 1), by omega, rfl, hlt, p'⟩, fun x H' y => ?_⟩
    obtain ⟨e, y⟩ := y
    subst e y
    exact hs i σ _ hlt p
  · have e : i = n := by omega
    subst e
    exact .inl ⟨Nat.le_refl _, hd σ H p⟩
end L2

namespace L2
open PySem PySem.Spec PyProof.Rows

abbrev R2 := V → V → Hp → VK → Prop
/-- a two-place operation on values: f is binaryOp op, inplaceOp op or compareOp op -/
def OpR (X : Cx) (f : Value → Value → Sem Value) (r : R2) : Prop :=
  ∀ (pins : List (Addr × Obj)) (s : Shared) (σ : St) (H : Hp) (x y : V) (v u : Value) (Q : VK), Inv X pins σ H s → RelV x v → RelV y u → r x y H Q →
    wpAny (model X.prog X.w) X.A (f v u) (EP X pins σ Q) X.xe s
/-- a one-place operation -/
def UnR (X : Cx) (f : Value → Sem Value) (r : V → Hp → VK → Prop) : Prop :=
  ∀ (pins : List (Addr × Obj)) (s : Shared) (σ : St) (H : Hp) (x : V) (v : Value) (Q : VK), Inv X pins σ H s → RelV x v → r x H Q →
    wpAny (model X.prog X.w) X.A (f v) (EP X pins σ Q) X.xe s
/-- a call of a value that is known (a builtin, a type) with values -/
def CallR (X : Cx) (f : Value) (r : List V → Hp → VK → Prop) : Prop :=
  ∀ (pins : List (Addr × Obj)) (s : Shared) (σ : St) (H : Hp) (xs : List V) (us : List Value) (Q : VK), Inv X pins σ H s → Vals xs us → r xs H Q →
    wpAny (model X.prog X.w) X.A (call f us) (EP X pins σ Q) X.xe s
/-- a value's truth -/
def TruR (X : Cx) (r : V → Hp → (Bool → Hp → Prop) → Prop) : Prop :=
  ∀ (pins : List (Addr × Obj)) (s : Shared) (σ : St) (H : Hp) (x : V) (v : Value) (Q : Bool → Hp → Prop), Inv X pins σ H s → RelV x v → r x H Q →
    wpAny (model X.prog X.w) X.A (truthy v) (TP X pins σ Q) X.xe s

def tOp (r : R2) (ta tb : TE) : TE := fun σ H Q => ta σ H fun x H1 => tb σ H1 fun y H2 => r x y H2 Q
def tUn (r : V → Hp → VK → Prop) (ta : TE) : TE := fun σ H Q => ta σ H fun x H1 => r x H1 Q
/-- ints in, under C, and a value out -/
def rI (C : Int → Int → Prop) (g : Int → Int → V) : R2 := fun x y H Q => ∃ i j, x = .int i ∧ y = .int j ∧ C i j ∧ Q (g i j) H
def rI0 (g : Int → Int → V) : R2 := fun x y H Q => ∃ i j, x = .int i ∧ y = .int j ∧ Q (g i j) H
def rU (g : Int → V) : V → Hp → VK → Prop := fun x H Q => ∃ i, x = .int i ∧ Q (g i) H

section
variable {X : Cx} {a b c : Expr} {ta tb tc : TE} {pos : Pos}

theorem binT (ha : PE X a ta) (hb : PE X b tb) {pins : List (Addr × Obj)} {s : Shared} {σ : St} {H : Hp} {R : V → V → Hp → Prop} (I : Inv X pins σ H s)
    (h : ta σ H fun x H1 => tb σ H1 fun y H2 => R x y H2) {Q : Value → Shared → Prop} {f : Value → Value → Sem Value}
    (hf : ∀ v u s2 x y H2, Inv X pins σ H2 s2 → RelV x v → RelV y u → R x y H2 → wpAny (model X.prog X.w) X.A (f v u) Q X.xe s2) :
    wpAny (model X.prog X.w) X.A (eval a X.env) (fun v s₁ => wpAny (model X.prog X.w) X.A (eval b X.env) (fun u s₂ => wpAny (model X.prog X.w) X.A (f v u) Q X.xe s₂) X.xe s₁) X.xe s := by
  refine thn (ha pins s σ H _ I h) fun v s1 ⟨x, H1, I1, r1, q1⟩ => ?_
  refine thn (hb pins s1 σ H1 _ I1 q1) fun u s2 ⟨y, H2, I2, r2, q2⟩ => ?_
  exact hf v u s2 x y H2 I2 r1 r2 q2

theorem pe_op {op : Operator} {r : R2} (ho : OpR X (binaryOp op) r) (ha : PE X a ta) (hb : PE X b tb) : PE X (.BinOp a op b pos) (tOp r ta tb) := by
  intro pins s σ H Q I h
  exact wpAny_BinOp (binT ha hb I h fun v u s2 x y H2 I2 rx ry q => ho pins s2 σ H2 x y v u Q I2 rx ry q)

/-! ### ints -/
theorem opI {f : Value → Value → Sem Value} {C : Int → Int → Prop} {g : Int → Int → Int}
    (rule : ∀ (i j : Int) (t u : Tok) (s : Shared) (Q : Value → Shared → Prop) (E : Value → Shared → Prop), C i j → Q (.int (g i j) s.toks) { s with toks := s.toks + 1 } → wpAny (model X.prog X.w) X.A (f (.int i t) (.int j u)) Q E s) :
    OpR X f (rI C fun i j => .int (g i j)) := by
  intro pins s σ H x y v u Q I rx ry h
  obtain ⟨i, j, rfl, rfl, hc, q⟩ := h
  obtain ⟨t, rfl⟩ := rx
  obtain ⟨t', rfl⟩ := ry
  exact rule i j t t' s _ _ hc ⟨.int (g i j), H, I.tok _, ⟨_, rfl⟩, q⟩
theorem opI0 {f : Value → Value → Sem Value} {g : Int → Int → Int}
    (rule : ∀ (i j : Int) (t u : Tok) (s : Shared) (Q : Value → Shared → Prop) (E : Value → Shared → Prop), Q (.int (g i j) s.toks) { s with toks := s.toks + 1 } → wpAny (model X.prog X.w) X.A (f (.int i t) (.int j u)) Q E s) :
    OpR X f (rI0 fun i j => .int (g i j)) := by
  intro pins s σ H x y v u Q I rx ry h
  obtain ⟨i, j, rfl, rfl, q⟩ := h
  obtain ⟨t, rfl⟩ := rx
  obtain ⟨t', rfl⟩ := ry
  exact rule i j t t' s _ _ ⟨.int (g i j), H, I.tok _, ⟨_, rfl⟩, q⟩
theorem opB0 {f : Value → Value → Sem Value} {g : Int → Int → Bool}
    (rule : ∀ (i j : Int) (t u : Tok) (s : Shared) (Q : Value → Shared → Prop) (E : Value → Shared → Prop), Q (.bool (g i j)) s → wpAny (model X.prog X.w) X.A (f (.int i t) (.int j u)) Q E s) :
    OpR X f (rI0 fun i j => .bl (g i j)) := by
  intro pins s σ H x y v u Q I rx ry h
  obtain ⟨i, j, rfl, rfl, q⟩ := h
  obtain ⟨t, rfl⟩ := rx
  obtain ⟨t', rfl⟩ := ry
  exact rule i j t t' s _ _ ⟨.bl (g i j), H, I, rfl, q⟩

def CDiv (i j : Int) : Prop := 0 < j ∧ j < 1073741824
def CDivN (i j : Int) : Prop := j ≠ 0 ∧ j.natAbs < 1073741824
def CPow (i j : Int) : Prop := 0 ≤ j ∧ j ≤ 1000000 ∧ i.natAbs < 2 ^ 64
def CMul (i j : Int) : Prop := (-(2 ^ 64) < i ∧ i < 2 ^ 64) ∨ (-(2 ^ 64) < j ∧ j < 2 ^ 64)
theorem CMul.ok {i j : Int} (h : CMul i j) : IntMulOk i j := by
  rcases h with ⟨h1, h2⟩ | ⟨h1, h2⟩
  · exact .of_left (intBits_le_64 h1 h2)
  · exact .of_right (intBits_le_64 h1 h2)

theorem op_add : OpR X (binaryOp .Add) (rI0 fun i j => .int (i + j)) := opI0 fun _ _ _ _ _ _ _ q => add_int q
theorem op_mul : OpR X (binaryOp .Mult) (rI CMul fun i j => .int (i * j)) := opI fun _ _ _ _ _ _ _ hc q => mul_int q hc.ok
/-- // by a positive divisor -/
theorem op_fdiv : OpR X (binaryOp .FloorDiv) (rI CDiv fun i j => .int (i / j)) := opI fun i j _ _ _ _ _ hc q => by
  have h1 : (0 : Int) < j := hc.1
  have h2 : j < 1073741824 := hc.2
  exact floordiv_int (by omega) (by rw [Int.fdiv_eq_ediv_of_nonneg i (by omega)]; exact q) (.inl (PyProof.noPylong_small (by omega)))
/-- % by a positive divisor of any size -/
theorem op_mod : OpR X (binaryOp .Mod) (rI (fun _ j => 0 < j) fun i j => .int (i % j)) := opI fun i j _ _ _ _ _ hc q => by
  have h1 : (0 : Int) < j := hc
  exact mod_int' (by omega) (by rw [Int.fmod_eq_emod_of_nonneg i (by omega)]; exact q)
theorem op_pow : OpR X (binaryOp .Pow) (rI CPow fun i j => .int (i ^ j.toNat)) := opI fun _ _ _ _ _ _ _ hc q => pow_int_small hc.1 hc.2.1 hc.2.2 q



/-! ### bools among ints: n += (a < b) -/
end

/-! ### comparisons -/
/-- the scalars that == tells apart as data does -/
def scal : V → V → Bool
  | .non, .non => true | .non, .int _ => true | .int _, .non => true | .non, .bl _ => true | .bl _, .non => true | .non, .str _ => true | .str _, .non => true
  | .int _, .int _ => true | .bl _, .bl _ => true | .str _, .str _ => true | .byt _, .byt _ => true
  | .int _, .str _ => true | .str _, .int _ => true | .bl _, .str _ => true | .str _, .bl _ => true
  | _, _ => false
def rEq : R2 := fun x y H Q => scal x y = true ∧ Q (.bl (decide (x = y))) H
def rNe : R2 := fun x y H Q => scal x y = true ∧ Q (.bl (!decide (x = y))) H

theorem dec_int {i j : Int} : decide (V.int i = V.int j) = (i == j) := by
  rw [Bool.eq_iff_iff]
  simp
theorem dec_bl {i j : Bool} : decide (V.bl i = V.bl j) = (i == j) := by
  rw [Bool.eq_iff_iff]
  simp
theorem dec_str {i j : Str} : decide (V.str i = V.str j) = (i == j) := by
  rw [Bool.eq_iff_iff]
  simp
theorem dec_byt {i j : Array UInt8} : decide (V.byt i = V.byt j) = (i.toList == j.toList) := by
  rw [Bool.eq_iff_iff]
  cases i
  cases j
  simp

section
variable {X : Cx} {a b c : Expr} {ta tb tc : TE} {pos : Pos}
theorem fin_bl {pins : List (Addr × Obj)} {σ : St} {H : Hp} {s : Shared} {Q : VK} {k k' : Bool} (I : Inv X pins σ H s) (q : Q (.bl k) H) (e : k = k') : EP X pins σ Q (.bool k') s := by
  subst e
  exact ⟨.bl k, H, I, rfl, q⟩
theorem op_eq : OpR X (compareOp .Eq) rEq := by
  intro pins s σ H x y v u Q I rx ry h
  obtain ⟨hs, q⟩ := h
  cases x with
  | non =>
    cases rx
    cases y with
    | non => cases ry; exact PySem.EqNone.eq_none_none (fin_bl I q (by simp))
    | bl j => cases ry; exact PySem.EqNone.eq_none_bool (fin_bl I q (by simp))
    | int j => obtain ⟨t', rfl⟩ := ry; exact PySem.EqNone.eq_none_int (fin_bl I q (by simp))
    | str j => obtain ⟨t', rfl⟩ := ry; exact PySem.EqNone.eq_none_str (fin_bl I q (by simp))
    | _ => exact absurd (show false = true from hs) Bool.false_ne_true
  | bl i =>
    cases rx
    cases y with
    | non => cases ry; exact PySem.EqNone.eq_bool_none (fin_bl I q (by simp))
    | bl j => cases ry; exact eq_bool (fin_bl I q dec_bl)
    | str j => obtain ⟨t', rfl⟩ := ry; exact PySem.EqMixed.eq_bool_str (fin_bl I q (by simp))
    | _ => exact absurd (show false = true from hs) Bool.false_ne_true
  | int i =>
    obtain ⟨t, rfl⟩ := rx
    cases y with
    | non => cases ry; exact PySem.EqNone.eq_int_none (fin_bl I q (by simp))
    | int j => obtain ⟨t', rfl⟩ := ry; exact eq_int (fin_bl I q dec_int)
    | str j => obtain ⟨t', rfl⟩ := ry; exact PySem.EqMixed.eq_int_str (fin_bl I q (by simp))
    | _ => exact absurd (show false = true from hs) Bool.false_ne_true
  | str i =>
    obtain ⟨t, rfl⟩ := rx
    cases y with
    | non => cases ry; exact PySem.EqNone.eq_str_none (fin_bl I q (by simp))
    | bl j => cases ry; exact PySem.EqMixed.eq_str_bool (fin_bl I q (by simp))
    | int j => obtain ⟨t', rfl⟩ := ry; exact PySem.EqMixed.eq_str_int (fin_bl I q (by simp))
    | str j => obtain ⟨t', rfl⟩ := ry; exact eq_str (fin_bl I q dec_str)
    | _ => exact absurd (show false = true from hs) Bool.false_ne_true
  | byt i =>
    obtain ⟨t, rfl⟩ := rx
    cases y with
    | byt j => obtain ⟨t', rfl⟩ := ry; exact PySem.W.eq_bytes (fin_bl I q dec_byt)
    | _ => exact absurd (show false = true from hs) Bool.false_ne_true
  | _ => cases y <;> exact absurd (show false = true from hs) Bool.false_ne_true
theorem op_ne : OpR X (compareOp .NotEq) rNe := by
  intro pins s σ H x y v u Q I rx ry h
  obtain ⟨hs, q⟩ := h
  cases x with
  | non =>
    cases rx
    cases y with
    | non => cases ry; exact PySem.EqNone.ne_none_none (fin_bl I q (by simp))
    | bl j => cases ry; exact PySem.EqNone.ne_none_bool (fin_bl I q (by simp))
    | int j => obtain ⟨t', rfl⟩ := ry; exact PySem.EqNone.ne_none_int (fin_bl I q (by simp))
    | str j => obtain ⟨t', rfl⟩ := ry; exact PySem.EqNone.ne_none_str (fin_bl I q (by simp))
    | _ => exact absurd (show false = true from hs) Bool.false_ne_true
  | bl i =>
    cases rx
    cases y with
    | non => cases ry; exact PySem.EqNone.ne_bool_none (fin_bl I q (by simp))
    | bl j => cases ry; exact ne_bool (fin_bl I q (congrArg not dec_bl))
    | str j => obtain ⟨t', rfl⟩ := ry; exact PySem.EqMixed.ne_bool_str (fin_bl I q (by simp))
    | _ => exact absurd (show false = true from hs) Bool.false_ne_true
  | int i =>
    obtain ⟨t, rfl⟩ := rx
    cases y with
    | non => cases ry; exact PySem.EqNone.ne_int_none (fin_bl I q (by simp))
    | int j => obtain ⟨t', rfl⟩ := ry; exact ne_int (fin_bl I q (congrArg not dec_int))
    | str j => obtain ⟨t', rfl⟩ := ry; exact PySem.EqMixed.ne_int_str (fin_bl I q (by simp))
    | _ => exact absurd (show false = true from hs) Bool.false_ne_true
  | str i =>
    obtain ⟨t, rfl⟩ := rx
    cases y with
    | non => cases ry; exact PySem.EqNone.ne_str_none (fin_bl I q (by simp))
    | bl j => cases ry; exact PySem.EqMixed.ne_str_bool (fin_bl I q (by simp))
    | int j => obtain ⟨t', rfl⟩ := ry; exact PySem.EqMixed.ne_str_int (fin_bl I q (by simp))
    | str j => obtain ⟨t', rfl⟩ := ry; exact ne_str (fin_bl I q (congrArg not dec_str))
    | _ => exact absurd (show false = true from hs) Bool.false_ne_true
  | byt i =>
    obtain ⟨t, rfl⟩ := rx
    cases y with
    | byt j => obtain ⟨t', rfl⟩ := ry; exact PySem.W.ne_bytes (fin_bl I q (congrArg not dec_byt))
    | _ => exact absurd (show false = true from hs) Bool.false_ne_true
  | _ => cases y <;> exact absurd (show false = true from hs) Bool.false_ne_true

theorem op_lt : OpR X (compareOp .Lt) (rI0 fun i j => .bl (decide (i < j))) := opB0 fun _ _ _ _ _ _ _ q => lt_int q
theorem op_le : OpR X (compareOp .LtE) (rI0 fun i j => .bl (decide (i ≤ j))) := opB0 fun _ _ _ _ _ _ _ q => le_int q
theorem op_gt : OpR X (compareOp .Gt) (rI0 fun i j => .bl (decide (j < i))) := opB0 fun _ _ _ _ _ _ _ q => gt_int q
theorem op_lt_str : OpR X (compareOp .Lt) (fun x y H Q => ∃ i j, x = .str i ∧ y = .str j ∧ Q (.bl (decide (i.cps.toList < j.cps.toList))) H) := by
  intro pins s σ H x y v u Q I rx ry h
  obtain ⟨i, j, rfl, rfl, q⟩ := h
  obtain ⟨t, rfl⟩ := rx
  obtain ⟨t', rfl⟩ := ry
  exact lt_str (fin_bl I q rfl)
/-- the one string within the other -/
theorem op_in_str : OpR X (compareOp .In) (fun x y H Q => ∃ i j, x = .str i ∧ y = .str j ∧ Q (.bl (!(Builtin.Str.occurrences j i 0 j.length 1).isEmpty)) H) := by
  intro pins s σ H x y v u Q I rx ry h
  obtain ⟨i, j, rfl, rfl, q⟩ := h
  obtain ⟨t, rfl⟩ := rx
  obtain ⟨t', rfl⟩ := ry
  exact in_str (fin_bl I q rfl)


/-- is, is not of two objects that are tracked lists or instances -/
def isObj : HO → Bool
  | .lst _ => true
  | .ins _ _ _ => true
  | _ => false

/-- two rules for one operation: by cases -/
theorem OpR.or {f : Value → Value → Sem Value} {r r' : R2} (h : OpR X f r) (h' : OpR X f r') : OpR X f (fun x y H Q => r x y H Q ∨ r' x y H Q) := by
  intro pins s σ H x y v u Q I rx ry q
  rcases q with q | q
  · exact h pins s σ H x y v u Q I rx ry q
  · exact h' pins s σ H x y v u Q I rx ry q

theorem nomark (b : Expr) {op : CmpOp} (h : op ≠ .In := by decide) (h2 : op ≠ .NotIn := by decide) : behindInMarks op b = false := by
  have e1 : (op == CmpOp.In) = false := by cases op <;> first | rfl | exact absurd rfl h
  have e2 : (op == CmpOp.NotIn) = false := by cases op <;> first | rfl | exact absurd rfl h2
  cases b <;> simp [behindInMarks, e1, e2]
/-- a comparison as a value; hm: nomark b, or (for in, not in) by with_unfolding_all rfl -/
theorem pe_cmpR {op : CmpOp} {r : R2} (ho : OpR X (compareOp op) r) (ha : PE X a ta) (hb : PE X b tb) (hm : behindInMarks op b = false) : PE X (.Compare a [op] [b] pos) (tOp r ta tb) := by
  intro pins s σ H Q I h
  exact wpAny_Compare1 (binT ha hb I h fun v u s2 x y H2 I2 rx ry q => ho pins s2 σ H2 x y v u Q I2 rx ry q) hm
/-- a reading of a value as a test -/
def tTest (t : TE) : TT := fun σ H Q => t σ H fun x H' => ∃ k, x = .bl k ∧ Q k H'
theorem pt_cmpR {op : CmpOp} {r : R2} (ho : OpR X (compareOp op) r) (ha : PE X a ta) (hb : PE X b tb) (hm : behindInMarks op b = false) : PT X (.Compare a [op] [b] pos) (tTest (tOp r ta tb)) := by
  intro pins s σ H Q I h
  refine wpAny_isTrue_Compare1 (thn (ha pins s σ H _ I h) fun v s1 ⟨x, H1, I1, r1, q1⟩ => thn (hb pins s1 σ H1 _ I1 q1) fun u s2 ⟨y, H2, I2, r2, q2⟩ =>
    thn (ho pins s2 σ H2 x y v u _ I2 r1 r2 q2) fun c s3 ⟨z, H3, I3, r3, k, e, q3⟩ => ?_) hm
  subst e
  cases r3
  exact wpAny_truthy_bool ⟨H3, I3, q3⟩
/-- a op1 b op2 c -/
def tChain (r r' : R2) (ta tb tc : TE) : TE := fun σ H Q => ta σ H fun x H1 => tb σ H1 fun y H2 => r x y H2 fun z H3 => ∃ k, z = .bl k ∧
  (if k = true then tc σ H3 fun w' H4 => r' y w' H4 Q else Q (.bl false) H3)
theorem pe_chain {op op' : CmpOp} {r r' : R2} (ho : OpR X (compareOp op) r) (ho' : OpR X (compareOp op') r') (ha : PE X a ta) (hb : PE X b tb) (hc : PE X c tc)
    (hm : lastMarks [op, op'] [b, c] = false := by with_unfolding_all rfl) : PE X (.Compare a [op, op'] [b, c] pos) (tChain r r' ta tb tc) := by
  intro pins s σ H Q I h
  refine Compare_chain (thn (ha pins s σ H _ I h) fun v s1 ⟨x, H1, I1, r1, q1⟩ => chain_link (thn (hb pins s1 σ H1 _ I1 q1) fun u s2 ⟨y, H2, I2, r2, q2⟩ =>
    thn (ho pins s2 σ H2 x y v u _ I2 r1 r2 q2) fun d s3 ⟨z, H3, I3, r3, k, e, q3⟩ => ?_)) hm
  subst e
  cases r3
  refine wpAny_truthy_bool ?_
  cases k with
  | false => exact ite_ff ⟨.bl false, H3, I3, rfl, q3⟩
  | true => exact ite_tt (chain_last (thn (hc pins s3 σ H3 _ I3 q3) fun w' s4 ⟨z', H4, I4, r4, q4⟩ => ho' pins s4 σ H4 y z' u w' Q I4 r2 r4 q4))
theorem pt_chain {op op' : CmpOp} {r r' : R2} (ho : OpR X (compareOp op) r) (ho' : OpR X (compareOp op') r') (ha : PE X a ta) (hb : PE X b tb) (hc : PE X c tc)
    (hm : lastMarks [op, op'] [b, c] = false := by with_unfolding_all rfl) : PT X (.Compare a [op, op'] [b, c] pos) (tTest (tChain r r' ta tb tc)) := by
  intro pins s σ H Q I h
  refine isTrue_chain (thn (ha pins s σ H _ I h) fun v s1 ⟨x, H1, I1, r1, q1⟩ => test_link (thn (hb pins s1 σ H1 _ I1 q1) fun u s2 ⟨y, H2, I2, r2, q2⟩ =>
    thn (ho pins s2 σ H2 x y v u _ I2 r1 r2 q2) fun d s3 ⟨z, H3, I3, r3, k, e, q3⟩ => ?_)) hm
  subst e
  cases r3
  refine wpAny_truthy_bool ?_
  cases k with
  | false =>
    obtain ⟨k', e', q'⟩ := q3
    cases e'
    exact ite_ff ⟨H3, I3, q'⟩
  | true =>
    refine ite_tt (test_last (thn (hc pins s3 σ H3 _ I3 q3) fun w' s4 ⟨z', H4, I4, r4, q4⟩ => thn (ho' pins s4 σ H4 y z' u w' _ I4 r2 r4 q4) fun d' s5 ⟨z2, H5, I5, r5, k2, e2, q5⟩ => ?_))
    subst e2
    cases r5
    exact wpAny_truthy_bool ⟨H5, I5, q5⟩

/-! ### truth -/
/-- a value's truth by the abstract heap -/
def TruV (K : PySem.W.Frag) (x : V) (H : Hp) (k : Bool) : Prop :=
  match x with
  | .non => k = false
  | .bl b => k = b
  | .int i => k = (i != 0)
  | .str y => y.length ≤ sizeLine ∧ k = ((y.length : Int) != 0)
  | .byt y => y.size ≤ sizeLine ∧ k = ((y.size : Int) != 0)
  | .ref p => (∃ xs, SqL K H p xs ∧ k = !xs.isEmpty) ∨ (∃ xs, SqT K H p xs ∧ k = !xs.isEmpty) ∨ ∃ kvs, H p = some (.dK kvs) ∧ k = !kvs.isEmpty
  | _ => False
theorem isEmpty_kv {κ : Type} {kvs : List (κ × V)} {vs : List (κ × Value)} (r : KV kvs vs) : (!vs.isEmpty) = !kvs.isEmpty := by
  cases r <;> rfl
theorem isEmpty_of {xs : List V} {its : List Value} (r : Vals xs its) : (!its.toArray.isEmpty) = !xs.isEmpty := by
  cases r <;> simp
theorem line63 : (sizeLine : Nat) < 2 ^ 63 := by rw [sizeLine_eq]; decide
theorem tru_ok : TruR X (fun x H Q => ∃ k, TruV X.K x H k ∧ Q k H) := by
  intro pins s σ H x v Q I rx h
  obtain ⟨k, e, q⟩ := h
  have hl := line63
  have hs : sizeLine = 16777216 := sizeLine_eq
  cases x with
  | non =>
    cases rx
    have e' : k = false := e
    subst e'
    exact truthy_none ⟨H, I, q⟩
  | bl b =>
    cases rx
    have e' : k = b := e
    subst e'
    exact wpAny_truthy_bool ⟨H, I, q⟩
  | int i =>
    obtain ⟨t, rfl⟩ := rx
    have e' : k = (i != 0) := e
    subst e'
    exact PySem.P.truthy_int ⟨H, I, q⟩
  | str y =>
    obtain ⟨t, rfl⟩ := rx
    obtain ⟨hy, e'⟩ : y.length ≤ sizeLine ∧ k = ((y.length : Int) != 0) := e
    subst e'
    exact PySem.P.truthy_str (by omega) ⟨H, I.tok _, q⟩
  | byt y =>
    obtain ⟨t, rfl⟩ := rx
    obtain ⟨hy, e'⟩ : y.size ≤ sizeLine ∧ k = ((y.size : Int) != 0) := e
    subst e'
    exact PySem.W.truthy_bytes (by omega) ⟨H, I.tok _, q⟩
  | ref p =>
    cases rx
    have e' : (∃ xs, SqL X.K H p xs ∧ k = !xs.isEmpty) ∨ (∃ xs, SqT X.K H p xs ∧ k = !xs.isEmpty) ∨ ∃ kvs, H p = some (.dK kvs) ∧ k = !kvs.isEmpty := e
    rcases e' with ⟨xs, hx, e'⟩ | ⟨xs, hx, e'⟩ | ⟨kvs, hx, e'⟩
    · subst e'
      obtain ⟨its, r, pl, hz⟩ := I.list hx
      have hlen := r.length
      exact wpAny_truthy_list pl.isList (by simp only [List.size_toArray]; omega) ⟨H, I.tok _, by rw [isEmpty_of r]; exact q⟩
    · subst e'
      obtain ⟨its, r, pl, hz⟩ := I.tuple hx
      have hlen := r.length
      exact truthy_tuple pl (by simp only [List.size_toArray]; omega) ⟨H, I.tok _, by rw [isEmpty_of r]; exact q⟩
    · subst e'
      obtain ⟨hz, hS, vs, r, m⟩ : kvs.length ≤ sizeLine ∧ (p == sysModules) = false ∧ ∃ vs, KV kvs vs ∧ s.heap.DictOf (mixKind X.prog X.w) p vs := I.hok p _ hx
      have hlen : kvs.length = vs.length := Paired.length r
      exact wpAny_truthy_dict hS m (by omega) ⟨H, I.tok _, by rw [isEmpty_kv r]; exact q⟩
  | _ => exact (show False from e).elim

/-! ### strs and bytes -/
theorem op_add_str : OpR X (binaryOp .Add) (fun x y H Q => ∃ i j, x = .str i ∧ y = .str j ∧ i.length + j.length ≤ sizeLine ∧ Q (.str (i ++ j)) H) := by
  intro pins s σ H x y v u Q I rx ry h
  obtain ⟨i, j, rfl, rfl, hz, q⟩ := h
  obtain ⟨t, rfl⟩ := rx
  obtain ⟨t', rfl⟩ := ry
  exact add_str (fun t' tk => ⟨.str (i ++ j), H, I.tok _, ⟨_, rfl⟩, q⟩) hz

def PlainIxT (b : Expr) : Prop := ∀ o i, subscripted b false o i = operate [o, i] (getItem o i)

/-! ### scalar builtins, by CallR -/
theorem vals1 {x : V} {us : List Value} (r : Vals [x] us) : ∃ u, us = [u] ∧ RelV x u := by
  cases r with
  | cons r1 r2 => cases r2; exact ⟨_, rfl, r1⟩
theorem vals2 {x y : V} {us : List Value} (r : Vals [x, y] us) : ∃ u w', us = [u, w'] ∧ RelV x u ∧ RelV y w' := by
  cases r with
  | cons r1 r2 =>
    cases r2 with
    | cons r3 r4 => cases r4; exact ⟨_, _, rfl, r1, r3⟩
theorem call_max2 (hc : X.calm = true) : CallR X (.builtin "max") (fun xs H Q => ∃ i j, xs = [.int i, .int j] ∧ Q (.int (if j > i then j else i)) H) := by
  intro pins s σ H xs us Q I r h
  obtain ⟨i, j, rfl, q⟩ := h
  obtain ⟨u, w', rfl, ⟨t, rfl⟩, ⟨t', rfl⟩⟩ := vals2 r
  refine max_two_ints (I.ok.hd hc) fun h' tk k => ⟨_, H, I.kept k, ?_, q⟩
  by_cases hj : j > i
  · rw [if_pos hj, if_pos hj]; exact ⟨_, rfl⟩
  · rw [if_neg hj, if_neg hj]; exact ⟨_, rfl⟩
theorem call_str_int : CallR X (.type "str") (fun xs H Q => ∃ i, xs = [.int i] ∧ i.natAbs.log2 < 1920 ∧ Q (.str (toString i)) H) := by
  intro pins s σ H xs us Q I r h
  obtain ⟨i, rfl, hz, q⟩ := h
  obtain ⟨u, rfl, t, rfl⟩ := vals1 r
  exact PySem.P.str_of_int hz ⟨.str _, H, I.tok _, ⟨_, rfl⟩, q⟩
/-- len of a str, a bytes, a list, a tuple -/
def LenV (K : PySem.W.Frag) (x : V) (H : Hp) (n : Nat) : Prop :=
  match x with
  | .str y => y.length ≤ sizeLine ∧ n = y.length
  | .byt y => y.size ≤ sizeLine ∧ n = y.size
  | .ref p => (∃ xs, SqL K H p xs ∧ n = xs.length) ∨ ∃ xs, SqT K H p xs ∧ n = xs.length
  | _ => False
theorem call_len : CallR X (.builtin "len") (fun xs H Q => ∃ x n, xs = [x] ∧ LenV X.K x H n ∧ Q (.int n) H) := by
  intro pins s σ H xs us Q I r h
  obtain ⟨x, n, rfl, e, q⟩ := h
  obtain ⟨u, rfl, rx⟩ := vals1 r
  have hl := line63
  have hs : sizeLine = 16777216 := sizeLine_eq
  cases x with
  | str y =>
    obtain ⟨t, rfl⟩ := rx
    obtain ⟨hy, e'⟩ : y.length ≤ sizeLine ∧ n = y.length := e
    subst e'
    exact len_str (by omega) ⟨.int _, H, I.tok _, ⟨_, rfl⟩, q⟩
  | byt y =>
    obtain ⟨t, rfl⟩ := rx
    obtain ⟨hy, e'⟩ : y.size ≤ sizeLine ∧ n = y.size := e
    subst e'
    exact PySem.W.len_bytes (by omega) ⟨.int _, H, I.tok _, ⟨_, rfl⟩, q⟩
  | ref p =>
    cases rx
    have e' : (∃ xs, SqL X.K H p xs ∧ n = xs.length) ∨ ∃ xs, SqT X.K H p xs ∧ n = xs.length := e
    rcases e' with ⟨xs, hx, e'⟩ | ⟨xs, hx, e'⟩
    · subst e'
      obtain ⟨its, r', pl, hz⟩ := I.list hx
      have hlen := r'.length
      exact Calls.call_len_list pl.isList (by simp only [List.size_toArray]; omega) ⟨.int xs.length, H, I.tok _, ⟨_, by simp only [List.size_toArray]; rw [hlen]⟩, q⟩
    · subst e'
      obtain ⟨its, r', pl, hz⟩ := I.tuple hx
      have hlen := r'.length
      exact len_tuple pl (by simp only [List.size_toArray]; omega) ⟨.int xs.length, H, I.tok _, ⟨_, by simp only [List.size_toArray]; rw [hlen]⟩, q⟩
  | _ => exact (show False from e).elim
end
end L2

namespace L2
open PySem PySem.Spec PyProof.Rows

/-! ### an instance, its attributes a map -/
structure ObjM (h : Heap) (x dx C : Addr) (mA : Str → Option Value) : Prop where
  obj : h.get? x = some (PySem.W.instObj C dx)
  ns : h.Ns1 dx mA
  ne : dx ≠ x

theorem lookIn_ns {h : Heap} {dx : Addr} {mA : Str → Option Value} (n : h.Ns1 dx mA) : ∃ od, h.get? dx = some od ∧ ∀ name, PySem.W.lookIn name od = some (mA name) := by
  obtain ⟨o, es, ep, ho, hd, hk, _, hm⟩ := n
  refine ⟨o, ho, fun name => ?_⟩
  have e := hm name
  unfold nsFind findBy at e
  rw [← Array.find?_toList] at e
  unfold PySem.W.lookIn
  rw [hd]
  dsimp only
  split
  · rename_i y q
    rw [q] at e
    exact congrArg some e
  · rename_i q
    rw [q] at e
    have a : es.toList.any (·.refKey) = false := by
      rw [List.any_eq_false]
      intro y hy
      obtain ⟨z, t, hkey⟩ := hk y (Array.mem_toList_iff.mp hy)
      simp [DictEntry.refKey, hkey]
    have a' : ¬ es.toList.any (·.refKey) = true := by rw [a]; exact Bool.false_ne_true
    rw [if_neg a']
    exact congrArg some e

theorem ObjM.look {h : Heap} {x dx C : Addr} {mA : Str → Option Value} (I : ObjM h x dx C mA) : ∃ od, PySem.W.InstAt h x (PySem.W.instObj C dx) C (some od) ∧ ∀ name, PySem.W.lookIn name od = some (mA name) :=
  let ⟨od, ho, hl⟩ := lookIn_ns I.ns
  ⟨od, ⟨I.obj, rfl, rfl, ho⟩, hl⟩

section
variable {prog : Program} {w : World} {A : Around} {E : Value → Shared → Prop} {s : Shared} {K : PySem.W.Frag} {x dx C f : Addr} {mA : Str → Option Value} {name : Str} {v : Value}





end

/-! ### the attributes as a list of pairs -/
def putF (f : Str) (v : V) : List (Str × V) → List (Str × V)
  | [] => [(f, v)]
  | (g, x) :: r => if g = f then (g, v) :: r else (g, x) :: putF f v r

theorem RelO.some_of {v : V} {o : Option Value} (r : RelO (some v) o) : ∃ u, o = some u ∧ RelV v u := by
  cases o with
  | none => exact (show False from r).elim
  | some u => exact ⟨u, rfl, r⟩

section
variable {P : Program} {w : World} {H H' : Hp} {h h' : Heap} {a C dx : Addr} {fs fs' : List (Str × V)}
end

/-! ### what of the text a class must have -/
structure Cls (K : PySem.W.Frag) (C : Addr) : Prop where
  pg : PySem.W.plainGet K C Str.empty = true
  hd : PySem.W.hasDictIn K C = true
  po : PySem.W.plainOver K C = true
  sa : PySem.W.findIn K (.ref C) "__setattr__" = some (some (.builtin "object.__setattr__"))
theorem Cls.get {K : PySem.W.Frag} {C : Addr} (c : Cls K C) (f : Str) : PySem.W.plainGet K C f = true := c.pg
/-- no class of it has the name -/
def NoAttr (K : PySem.W.Frag) (C : Addr) (f : Str) : Prop := PySem.W.findIn K (.ref C) f = some none
/-- a constant of the class -/
structure Con (K : PySem.W.Frag) (C : Addr) (f : Str) (v : V) (u : Value) : Prop where
  at_ : PySem.W.findIn K (.ref C) f = some (some u)
  rel : RelV v u
  get : PySem.W.specialIn K u "__get__" = some none
  cp : PySem.W.copiedNames.contains f = false
/-- a method: a plain def of the class or of one above it -/
structure Meth (K : PySem.W.Frag) (C : Addr) (m : Str) (f : Addr) : Prop where
  at_ : PySem.W.findIn K (.ref C) m = some (some (.ref f))
  fn : PySem.W.isFn K (.ref f) = true
  kp : PySem.W.keepIn K (.ref f) = true

section
variable {X : Cx} {pins : List (Addr × Obj)} {σ : St} {H : Hp} {s : Shared} {a C dx : Addr} {fs : List (Str × V)} {f : Str} {v : V} {A : Around} {E : Value → Shared → Prop}





/-- a new instance, tracked, without attributes -/
theorem Inv.made (I : Inv X pins σ H s) : Inv X pins σ (upd (upd H s.heap.objs.size (.own (s.heap.objs.size + 1))) (s.heap.objs.size + 1) (.ins C s.heap.objs.size []))
    { s with heap := (s.heap.push PySem.W.emptyDict).push (PySem.W.instObj C s.heap.objs.size) } := by
  have e1 : (s.heap.push PySem.W.emptyDict).get? s.heap.objs.size = some PySem.W.emptyDict := Heap.get?_push_size s.heap rfl
  have e2 : ((s.heap.push PySem.W.emptyDict).push (PySem.W.instObj C s.heap.objs.size)).get? (s.heap.objs.size + 1) = some (PySem.W.instObj C s.heap.objs.size) := by
    have := Heap.get?_push_size (s.heap.push PySem.W.emptyDict) (o := PySem.W.instObj C s.heap.objs.size) rfl
    rwa [Heap.size_push] at this
  have e3 : (s.heap.push PySem.W.emptyDict).Ns s.heap.objs.size (fun _ => none) := ⟨PySem.W.emptyDict, #[], _, e1, rfl, (fun e he => absurd he (by simp)), fun _ => rfl⟩
  have I1 := I.laid (a := s.heap.objs.size) (o := .own (s.heap.objs.size + 1)) (h' := s.heap.push PySem.W.emptyDict) (t' := s.toks) (fun b u q => Heap.get?_push_of_some _ q) (Nat.le_refl _) ⟨_, e1⟩
  refine I1.laid (a := s.heap.objs.size + 1) (o := .ins C s.heap.objs.size []) (t' := s.toks) (fun b u q => Heap.get?_push_of_some _ q) (Nat.le_of_eq (Heap.size_push _ _)) ?_
  have ne : s.heap.objs.size ≠ s.heap.objs.size + 1 := Nat.ne_of_lt (Nat.lt_succ_self _)
  refine ⟨by rw [upd_ne ne, upd_same], Nat.zero_le _, ne, e2, fun _ => none, (Heap.Ns1.of_empty e3).at fun o q => Heap.get?_push_of_some _ q, fun _ => True.intro, fun y hy => absurd rfl hy⟩

end

/-! ### readings and rules -/
/-- e.f, an attribute of the instance -/
def tFld (K : PySem.W.Frag) (ta : TE) (f : Str) : TE := fun σ H Q => ta σ H fun x H1 => ∃ a C dx fs v, x = .ref a ∧ H1 a = some (.ins C dx fs) ∧ Cls K C ∧ NoAttr K C f ∧ fs.lookup f = some v ∧ Q v H1
/-- e.f, a constant of the class -/
def tCon (K : PySem.W.Frag) (ta : TE) (f : Str) : TE := fun σ H Q => ta σ H fun x H1 => ∃ a C dx fs v u, x = .ref a ∧ H1 a = some (.ins C dx fs) ∧ Cls K C ∧ Con K C f v u ∧ fs.lookup f = none ∧ Q v H1
/-- e.f = value -/
def sFld (K : PySem.W.Frag) (ta tv : TE) (f : Str) : TS := fun D σ H => tv σ H fun y H1 => ta σ H1 fun x H2 => ∃ a C dx fs, x = .ref a ∧ H2 a = some (.ins C dx fs) ∧ Cls K C ∧ NoAttr K C f ∧ fs.length < 1000 ∧
  D.nx σ (upd H2 a (.ins C dx (putF f y fs)))
/-- an augmented operator on two values -/
def InOp (X : Cx) (op : Operator) (rd : V → V → Hp → VK → Prop) : Prop :=
  ∀ (pins : List (Addr × Obj)) (s : Shared) (σ : St) (H : Hp) (x y : V) (u v : Value) (Q : VK), Inv X pins σ H s → RelV x u → RelV y v → rd x y H Q → wpAny (model X.prog X.w) X.A (inplaceOp op u v) (EP X pins σ Q) X.xe s
/-- e.f op= value -/
def sFldAug (K : PySem.W.Frag) (ta tv : TE) (rd : V → V → Hp → VK → Prop) (f : Str) : TS := fun D σ H => ta σ H fun x H1 => ∃ a C dx fs v, x = .ref a ∧ H1 a = some (.ins C dx fs) ∧ Cls K C ∧ NoAttr K C f ∧ fs.lookup f = some v ∧
  tv σ H1 fun y H2 => rd v y H2 fun z H3 => ∃ dx' fs', H3 a = some (.ins C dx' fs') ∧ fs'.length < 1000 ∧ D.nx σ (upd H3 a (.ins C dx' (putF f z fs')))

section
variable {X : Cx} {o e value : Expr} {f : Str} {pos pos' tpos : Pos} {ta tv : TE}
def rAdd : V → V → Hp → VK → Prop := fun x y H Q => ∃ i j, x = .int i ∧ y = .int j ∧ Q (.int (i + j)) H
def rSub : V → V → Hp → VK → Prop := fun x y H Q => ∃ i j, x = .int i ∧ y = .int j ∧ Q (.int (i - j)) H

end

/-! ### isinstance -/
section
variable {X : Cx} {pins : List (Addr × Obj)} {σ : St} {H : Hp} {s : Shared} {A : Around} {E : Value → Shared → Prop} {Q : Value → Shared → Prop} {c : Value} {b : Bool}
/-- the type of a value, as the fragment's deciders take it; for an instance its class -/
inductive TyOf (K : PySem.W.Frag) (H : Hp) : V → Value → Prop where
  | non : TyOf K H .non (.type "NoneType")
  | bl (x : Bool) : TyOf K H (.bl x) (.type "bool")
  | int (i : Int) : TyOf K H (.int i) (.type "int")
  | str (x : Str) : TyOf K H (.str x) (.type "str")
  | flt (x : UInt64) : TyOf K H (.flt x) (.type "float")
  | lst {a : Addr} {xs : List V} (e : H a = some (.lst xs)) : TyOf K H (.ref a) (.type "list")
  | frz {a : Addr} {o : Obj} {xs : List V} (e : H a = some (.frz o (.lst xs))) : TyOf K H (.ref a) (.type "list")
  | tup {a : Addr} {xs : List V} (e : H a = some (.tup xs)) : TyOf K H (.ref a) (.type "tuple")
  | dK {a : Addr} {kvs : List (Key × V)} (e : H a = some (.dK kvs)) : TyOf K H (.ref a) (.type "dict")
  | dT {a : Addr} {kvs : List (List Key × V)} (e : H a = some (.dT kvs)) : TyOf K H (.ref a) (.type "dict")
  | ins {a C dx : Addr} {fs : List (Str × V)} (e : H a = some (.ins C dx fs)) (cl : Cls K C) (ha : PySem.W.findIn K (.ref C) "__class__" = some (some (.builtin "object.__class__")))
      (hn : PySem.W.specialIn K (.builtin "object.__class__") "__get__" = some (some (.builtin "getset_descriptor.__get__"))) (htk : PySem.W.takesIn K (.builtin "object.__class__") = some true)
      (hm : PySem.W.mroIn K C (.type "object") = some true) : TyOf K H (.ref a) (.ref C)
end
end L2

namespace L2
open PySem PySem.Spec PyProof.Rows

/-! ### room -/
structure Room (k : Nat) (A : Around) : Prop where
  hd : A.handled = none
  dp : A.depth + 3 * k + 5 < recursionLimit
  un : A.units + 16 * k + 200 < cLine
theorem Room.mono {j k : Nat} {A : Around} (r : Room k A) (h : j ≤ k) : Room j A := ⟨r.hd, by have := r.dp; omega, by have := r.un; omega⟩
theorem Room.deeper {k : Nat} {A : Around} (r : Room (k + 1) A) (env : Env) : Room k (A.deeper env) :=
  ⟨r.hd, by have := r.dp; show A.depth + 1 + 3 * k + 5 < _; omega, by have := r.un; show A.units + 3 + 16 * k + 200 < _; omega⟩
theorem Room.in1 {k : Nat} {A : Around} (r : Room (k + 1) A) : Room k A.in1 :=
  ⟨r.hd, by have := r.dp; show A.depth + 3 * k + 5 < _; omega, by have := r.un; show A.units + 1 + 16 * k + 200 < _; omega⟩
theorem make_depth {A : Around} {C : Addr} {us : List Value} {kw : List (Str × Value)} : (A.under (.builtin "type.__call__" ⟨.ref C :: us, kw⟩)).depth = A.depth + 1 := by
  first | rfl | simp [Around.under, Code.weight, Code.isCreation, Code.isGuard, Code.isCaller, Code.frames, Code.isFrame, guardIds]
theorem make_units {A : Around} {C : Addr} {us : List Value} {kw : List (Str × Value)} : (A.under (.builtin "type.__call__" ⟨.ref C :: us, kw⟩)).units = A.units + 1 := by
  first | rfl | simp [Around.under, Code.cUnits, Code.frames, Code.isFrame]
theorem Room.make {k : Nat} {A : Around} (r : Room (k + 1) A) (C : Addr) (us : List Value) (kw : List (Str × Value)) : Room k (A.under (.builtin "type.__call__" ⟨.ref C :: us, kw⟩)) :=
  ⟨r.hd, by have := r.dp; rw [make_depth]; omega, by have := r.un; rw [make_units]; omega⟩
theorem Room.depth {k : Nat} {A : Around} (r : Room k A) : A.depth < recursionLimit := by have := r.dp; omega
theorem Room.units {k : Nat} {A : Around} (r : Room k A) : A.units + 64 < cLine := by have := r.un; omega

/-! ### argument lists and displays -/
def tNil : TA := fun _ H Q => Q [] H
def tCons (ta : TE) (tr : TA) : TA := fun σ H Q => ta σ H fun x H1 => tr σ H1 fun xs H2 => Q (x :: xs) H2
section
variable {X : Cx} {e : Expr} {es : List Expr} {te : TE} {t : TA} {pos : Pos}
theorem pa_nil : PA X [] tNil := fun _ _ _ _ H Q I h => Calls.spliced_nil ⟨[], H, I, .nil, h⟩
theorem pa_cons (ha : PE X e te) (hr : PA X es t) (hs : starEach (e :: es) X.env = (false, eval e X.env) :: starEach es X.env := by rfl) : PA X (e :: es) (tCons te t) := by
  intro pos pins s σ H Q I h
  rw [hs]
  show wpAny _ _ (spliced ((false, eval e X.env) :: backTo pos (starEach es X.env))) _ _ s
  refine Calls.spliced_cons (thn (ha pins s σ H _ I h) fun u s1 ⟨x, H1, I1, r1, q1⟩ => ?_)
  exact thn (hr pos pins s1 σ H1 _ I1 q1) fun us s2 ⟨xs, H2, I2, r2, q2⟩ => ⟨x :: xs, H2, I2, .cons r1 r2, q2⟩

/-- a tuple, a list of written items -/
def tTup (t : TA) : TE := fun σ H Q => t σ H fun xs H1 => xs.length ≤ sizeLine ∧ ∀ p, H1 p = none → Q (.ref p) (upd H1 p (.tup xs))
def tLst (t : TA) : TE := fun σ H Q => t σ H fun xs H1 => xs.length ≤ sizeLine ∧ ∀ p, H1 p = none → Q (.ref p) (upd H1 p (.lst xs))
theorem pe_tup {x1} (h : PA X es t) : PE X (.Tuple es x1 pos) (tTup t) := by
  intro pins s σ H Q I hq
  refine wpAny_Tuple_spliced (thn (h pos pins s σ H _ I hq) fun us s1 ⟨xs, H1, I1, r, z, q⟩ => ⟨by rw [← r.length]; exact z, ?_⟩)
  have hf : H1 s1.heap.objs.size = none := I1.hok.fresh (Nat.le_refl _)
  refine ⟨.ref s1.heap.objs.size, upd H1 s1.heap.objs.size (.tup xs), I1.laid (t' := s1.toks) (fun b u e => Heap.get?_push_of_some _ e) (Nat.le_refl _) ?_, rfl, q _ hf⟩
  exact ⟨z, us, r, ⟨_, Heap.get?_push_size _ rfl, rfl, _, rfl⟩⟩
theorem pe_lst (h : PA X es t) : PE X (.List es pos) (tLst t) := by
  intro pins s σ H Q I hq
  refine wpAny_List_spliced (thn (h pos pins s σ H _ I hq) fun us s1 ⟨xs, H1, I1, r, z, q⟩ => ⟨by rw [← r.length]; exact z, ?_⟩)
  have hf : H1 s1.heap.objs.size = none := I1.hok.fresh (Nat.le_refl _)
  refine ⟨.ref s1.heap.objs.size, upd H1 s1.heap.objs.size (.lst xs), I1.laid (t' := s1.toks) (fun b u e => Heap.get?_push_of_some _ e) (Nat.le_refl _) ?_, rfl, q _ hf⟩
  exact ⟨z, us, 0, r, Heap.get?_push_size _ rfl⟩
end

/-! ### what a def promises -/
/-- a def's promise: the bound arguments in the parameters' order, the heap, the wanted end, the wanted exception -/
abbrev Sp := List V → Hp → VK → XK → Prop
/-- how an exception lies behind a call (file 08 gives it): the callers' frames, abstract heap and state ahead of the call, the wish, the exception, the state -/
abbrev CXT := List Env → Hp → Shared → XK → Value → Shared → Prop

/-- the state at a call -/
structure Env0 (P : Program) (w : World) (K : PySem.W.Frag) (mg : Str → Option Value) (base : Heap) (A : Around) (outer : List Env) (s : Shared) (H : Hp) : Prop where
  frames : A.frames = some outer
  mod : Mod K mg base
  bs : ∀ b o, base.get? b = some o → s.heap.get? b = some o ∧ H b = none
  bsz : base.objs.size ≤ s.heap.objs.size
  funs : s.heap.FunFrames base outer
  frf : ∀ b ∈ frs outer, H b = none
  hok : HOk P w H s.heap
  bare : AllBare s.gens
/-- a call's end -/
def CE (outer : List Env) (P : Program) (w : World) (H : Hp) (s : Shared) (Q : VK) (u : Value) (s' : Shared) : Prop :=
  ∃ v H', s'.os = s.os ∧ AllBare s'.gens ∧ Un (frs outer) [] H H' s.heap s'.heap ∧ HOk P w H' s'.heap ∧ RelV v u ∧ Q v H'
def CR (CX : CXT) (outer : List Env) (P : Program) (w : World) (H : Hp) (s : Shared) (Q : VK) (E : XK) (r : Result) (s' : Shared) : Prop :=
  match r with
  | .ok (.ret u) => CE outer P w H s Q u s'
  | .ok _ => False
  | .error e => CX outer H s E e s'
structure FnOk (P : Program) (w : World) (K : PySem.W.Frag) (mg : Str → Option Value) (base : Heap) (CX : CXT) (k : Nat) (f : Addr) (fd : FuncData) (ps : List Str) (sp : Sp) : Prop where
  len : ∀ vs H Q E, sp vs H Q E → vs.length = ps.length
  run : ∀ (A : Around) (outer : List Env) (s : Shared) (H : Hp) (args : Args) (us : List Value) (vs : List V) (Q : VK) (E : XK), Room k A → Env0 P w K mg base A outer s H → BindsTo s fd args (ps.zip us) → Vals vs us → sp vs H Q E →
    codeAny (model P w) A (.call (.ref f) args) (CR CX outer P w H s Q E) s
theorem FnOk.mono {P : Program} {w : World} {K : PySem.W.Frag} {mg : Str → Option Value} {base : Heap} {CX : CXT} {j k : Nat} {f : Addr} {fd : FuncData} {ps : List Str} {sp : Sp} (F : FnOk P w K mg base CX j f fd ps sp) (h : j ≤ k) :
    FnOk P w K mg base CX k f fd ps sp := ⟨F.len, fun A outer s H args us vs Q E hr => F.run A outer s H args us vs Q E (hr.mono h)⟩
/-- a weaker promise -/
theorem FnOk.imp {P : Program} {w : World} {K : PySem.W.Frag} {mg : Str → Option Value} {base : Heap} {CX : CXT} {k : Nat} {f : Addr} {fd : FuncData} {ps : List Str} {sp sp' : Sp} (F : FnOk P w K mg base CX k f fd ps sp)
    (h : ∀ vs H Q E, sp' vs H Q E → sp vs H Q E) : FnOk P w K mg base CX k f fd ps sp' :=
  ⟨fun vs H Q E q => F.len vs H Q E (h _ _ _ _ q), fun A outer s H args us vs Q E hr he hb hv hs => F.run A outer s H args us vs Q E hr he hb hv (h _ _ _ _ hs)⟩

theorem Env0.make {P : Program} {w : World} {K : PySem.W.Frag} {mg : Str → Option Value} {base : Heap} {A : Around} {outer : List Env} {s : Shared} {H : Hp} (e : Env0 P w K mg base A outer s H) (C : Addr) (us : List Value) (kw : List (Str × Value)) :
    Env0 P w K mg base (A.under (.builtin "type.__call__" ⟨.ref C :: us, kw⟩)) outer s H := ⟨by first | exact e.frames | (simpa [Around.under, Code.envs, Code.isFrame, pushEnvs] using e.frames), e.mod, e.bs, e.bsz, e.funs, e.frf, e.hok, e.bare⟩
theorem Env0.in1 {P : Program} {w : World} {K : PySem.W.Frag} {mg : Str → Option Value} {base : Heap} {A : Around} {outer : List Env} {s : Shared} {H : Hp} (e : Env0 P w K mg base A outer s H) :
    Env0 P w K mg base A.in1 outer s H := ⟨e.frames, e.mod, e.bs, e.bsz, e.funs, e.frf, e.hok, e.bare⟩

section
variable {X : Cx} {pins : List (Addr × Obj)} {σ : St} {H : Hp} {s s' : Shared}
/-- from a body: what a callee wants -/
theorem Inv.env0 (I : Inv X pins σ H s) : Env0 X.prog X.w X.K X.mg X.base X.A X.stack s H :=
  ⟨I.ok.frames, I.ok.mod, I.bs, Nat.le_trans I.ok.bsz I.sz, I.stack, I.stkFree, I.hok, I.bare⟩
/-- behind a call -/
theorem Inv.after {Q : VK} {u : Value} (I : Inv X pins σ H s) (h : CE X.stack X.prog X.w H s Q u s') : EP X pins σ Q u s' := by
  obtain ⟨v, H', os, bare, un, hok, r, q⟩ := h
  obtain ⟨hh, g, d, t, os'⟩ := s'
  obtain rfl : os' = s.os := os
  exact ⟨v, H', I.call (h' := hh) (g' := g) (d' := d) (t' := t) (ch := []) un hok bare (fun b z => absurd z (by simp)), r, q⟩
end

/-! ### calls -/
/-- f(..): the written arguments, then the defaults dvs; E: what is wanted of an exception -/
def tCall (sp : Sp) (dvs : List V) (E : XK) (t : TA) : TE := fun σ H Q => t σ H fun vs H1 => sp (vs ++ dvs) H1 Q E
/-- o.m(..) of an instance of the class at C -/
def tMeth (C : Addr) (m : Str) (sp : Sp) (dvs : List V) (E : XK) (ta : TE) (t : TA) : TE := fun σ H Q => ta σ H fun x H1 => ∃ a dx fs, x = .ref a ∧ H1 a = some (.ins C dx fs) ∧ fs.lookup m = none ∧
  t σ H1 fun vs H2 => sp (x :: (vs ++ dvs)) H2 Q E
/-- C(..): a new instance and its dict, then __init__ -/
def tMake (C : Addr) (sp : Sp) (dvs : List V) (E : XK) (t : TA) : TE := fun σ H Q => t σ H fun vs H1 => ∀ x dx, H1 x = none → H1 dx = none → dx ≠ x →
  sp (.ref x :: (vs ++ dvs)) (upd (upd H1 dx (.own x)) x (.ins C dx [])) (fun v H2 => v = .non ∧ Q (.ref x) H2) E

/-- how the parameters are bound: us the positional arguments, kw the keywords' values by name, ds the defaults that fill up -/
def Binds (K : PySem.W.Frag) (fd : FuncData) (ps : List Str) (ds : List Value) : Prop :=
  ∀ (s : Shared) (us : List Value), K.In s.heap → (us ++ ds).length = ps.length → BindsTo s fd ⟨us, []⟩ (ps.zip (us ++ ds))
/-- every parameter is given -/
theorem Binds.all {K : PySem.W.Frag} {fd : FuncData} {ps : List Str} (h : ∀ us : List Value, us.length = ps.length → bindArgs fd ⟨us, []⟩ = pure (ps.zip us)) : Binds K fd ps [] := fun s us _ hl => by
  rw [List.append_nil] at hl ⊢
  exact .of_eq (h us hl)

/-- an exception of a callee reaches what this body wants of exceptions -/
def Passes (CX : CXT) (X : Cx) (E : XK) : Prop := ∀ (pins : List (Addr × Obj)) (σ : St) (H : Hp) (s : Shared) (e : Value) (s' : Shared), Inv X pins σ H s → CX X.stack H s E e s' → X.xe e s'

section
variable {X : Cx} {CX : CXT} {k : Nat} {f C : Addr} {fd : FuncData} {ps : List Str} {sp : Sp} {dvs : List V} {ds : List Value} {E : XK} {x m : Str} {p pos apos : Pos} {e o : Expr} {es : List Expr} {ta : TE} {t : TA}

/-- the callee runs -/
theorem run_fn {pins : List (Addr × Obj)} {σ : St} {H : Hp} {s : Shared} {Q : VK} {us : List Value} {vs : List V} (F : FnOk X.prog X.w X.K X.mg X.base CX k f fd ps sp) (hr : Room k X.A) (hb : Binds X.K fd ps ds) (hd : Vals dvs ds) (hx : Passes CX X E)
    (I : Inv X pins σ H s) (r : Vals vs us) (h : sp (vs ++ dvs) H Q E) : wpAny (model X.prog X.w) X.A (call (.ref f) us) (EP X pins σ Q) X.xe s := by
  have r2 : Vals (vs ++ dvs) (us ++ ds) := r.append hd
  have hl : (us ++ ds).length = ps.length := by rw [← r2.length]; exact F.len _ _ _ _ h
  refine wpAny_call (codeAny_mono (F.run X.A X.stack s H ⟨us, []⟩ (us ++ ds) (vs ++ dvs) Q E hr I.env0 (hb s us I.kIn hl) r2 h) fun r s' hq => ?_)
  cases r with
  | error e => exact hx pins σ H s e s' I hq
  | ok fl =>
    cases fl with
    | ret u => exact I.after hq
    | next => exact False.elim hq
    | brk => exact False.elim hq
    | cont => exact False.elim hq

theorem pe_call (F : FnOk X.prog X.w X.K X.mg X.base CX k f fd ps sp) (hr : Room k X.A) (hg : Gl X x) (hm : X.mg x = some (.ref f)) (hk : PySem.W.keepIn X.K (.ref f) = true) (hb : Binds X.K fd ps ds) (hd : Vals dvs ds) (hx : Passes CX X E)
    (ha : PA X (e :: es) t) (hdb : (x == ("__debug__" : Str)) = false := by decide) (he : starEach (e :: es) X.env = (false, eval e X.env) :: starEach es X.env := by rfl) (hpl : (backTo pos (starEach es X.env)).any (·.1) = false := by rfl) :
    PE X (.Call (.Name x p) (e :: es) [] pos) (tCall sp dvs E t) := by
  intro pins s σ H Q I h
  refine wpAny_Call_Name_kw (ld_glob I hg hm ?_ hdb)
  refine PySem.W.callWith_K (h₀ := X.base) I.ok.mod.kin hk (thn (ha pos pins s σ H _ I h) fun us s1 ⟨vs, H1, I1, r, q⟩ => ⟨I1.kIn, ?_⟩) he hpl
  exact run_fn F hr hb hd hx I1 r q


/-- what a class must have to be made -/
structure Mk (K : PySem.W.Frag) (C f : Addr) : Prop where
  makes : PySem.W.makesIn K C = true
  init : PySem.W.findIn K (.ref C) "__init__" = some (some (.ref f))
  fn : PySem.W.isFn K (.ref f) = true
  kp : PySem.W.keepIn K (.ref C) = true

end

/-! ### keywords -/
/-- the values of the keywords, from the left -/
def PK (X : Cx) (kws : List Keyword) (t : TA) : Prop :=
  ∀ (pos : Pos) (pins : List (Addr × Obj)) (s : Shared) (σ : St) (H : Hp) (Q : List V → Hp → Prop), Inv X pins σ H s → t σ H Q → wpAny (model X.prog X.w) X.A (evalAll ((backToKw pos (keywordEach kws X.env)).map (·.2))) (AP X pins σ Q) X.xe s
section
variable {X : Cx} {CX : CXT} {k : Nat} {f C : Addr} {fd : FuncData} {ps ks : List Str} {sp : Sp} {E : XK} {x m : Str} {p pos apos kpos : Pos} {e o : Expr} {es : List Expr} {kws : List Keyword} {te ta : TE} {t tk : TA} {nm : Option Str}

/-- how a call with keywords binds: g puts the positional values us and the keywords' values ws (names ks) in the parameters' order, defaults among them -/
structure KBinds (K : PySem.W.Frag) (fd : FuncData) (ps ks : List Str) (g : List Value → List Value → List Value) (gV : List V → List V → List V) : Prop where
  to : ∀ (s : Shared) (us ws : List Value), K.In s.heap → (g us ws).length = ps.length → BindsTo s fd ⟨us, ks.zip ws⟩ (ps.zip (g us ws))
  rel : ∀ {vs : List V} {us : List Value} {zs : List V} {ws : List Value}, Vals vs us → Vals zs ws → Vals (gV vs zs) (g us ws)
def tCallK (sp : Sp) (gV : List V → List V → List V) (E : XK) (t tk : TA) : TE := fun σ H Q => t σ H fun vs H1 => tk σ H1 fun zs H2 => sp (gV vs zs) H2 Q E
variable {g : List Value → List Value → List Value} {gV : List V → List V → List V}
end

/-! ### a def's body keeps its promise -/
/-- names: the parameters first -/
structure FnScope (N P : List Str) (sc : Scope) : Prop where
  kind : sc.kind = .function
  co : sc.isCoroutine = false
  gen : sc.isGenerator = false
  nd : N.Nodup
  pre : N.take P.length = P
  par : ∀ x ∈ P, sc.names.lookup x = some .local ∨ sc.names.lookup x = some .cell
  nofree : ∀ y ∈ sc.names, y.2 ≠ .free

theorem bindL_out {kindOf : Str → Option NameKind} {x : Str} : ∀ {binds : List (Str × Value)} {m : Str → Option Value}, (∀ v, (x, v) ∉ binds) → bindL kindOf binds m x = m x
  | [], _, _ => rfl
  | (n, v) :: r, m, h => by
    unfold bindL
    rw [bindL_out fun w hw => h w (List.mem_cons_of_mem _ hw)]
    split
    · have : x ≠ n := by rintro rfl; exact h v List.mem_cons_self
      simp [this]
    · rfl
theorem bindC_out {kindOf : Str → Option NameKind} {x : Str} : ∀ {binds : List (Str × Value)} {m : Str → Option Value}, (∀ v, (x, v) ∉ binds) → bindC kindOf binds m x = m x
  | [], _, _ => rfl
  | (n, v) :: r, m, h => by
    unfold bindC
    rw [bindC_out fun w hw => h w (List.mem_cons_of_mem _ hw)]
    split
    · rfl
    · have : x ≠ n := by rintro rfl; exact h v List.mem_cons_self
      simp [this]
theorem bindL_get {kindOf : Str → Option NameKind} {x : Str} {v : Value} : ∀ {P : List Str} {vs : List Value} {i : Nat} {m : Str → Option Value}, P.Nodup → P[i]? = some x → vs[i]? = some v → kindOf x = some .local →
    bindL kindOf (P.zip vs) m x = some v
  | [], _, _, _, _, h, _, _ => by simp at h
  | _ :: _, [], _, _, _, _, h, _ => by simp at h
  | p :: P, w :: vs, 0, m, nd, h1, h2, hk => by
    simp at h1 h2; subst h1; subst h2
    show bindL kindOf ((p, w) :: P.zip vs) m p = _
    unfold bindL
    rw [bindL_out fun v hv => (List.nodup_cons.mp nd).1 (List.of_mem_zip hv).1, if_pos hk]
    simp
  | p :: P, w :: vs, i + 1, m, nd, h1, h2, hk => by
    show bindL kindOf ((p, w) :: P.zip vs) m x = _
    unfold bindL
    exact bindL_get (i := i) (List.nodup_cons.mp nd).2 (by simpa using h1) (by simpa using h2) hk
theorem bindC_get {kindOf : Str → Option NameKind} {x : Str} {v : Value} : ∀ {P : List Str} {vs : List Value} {i : Nat} {m : Str → Option Value}, P.Nodup → P[i]? = some x → vs[i]? = some v → kindOf x ≠ some .local →
    bindC kindOf (P.zip vs) m x = some v
  | [], _, _, _, _, h, _, _ => by simp at h
  | _ :: _, [], _, _, _, _, h, _ => by simp at h
  | p :: P, w :: vs, 0, m, nd, h1, h2, hk => by
    simp at h1 h2; subst h1; subst h2
    show bindC kindOf ((p, w) :: P.zip vs) m p = _
    unfold bindC
    rw [bindC_out fun v hv => (List.nodup_cons.mp nd).1 (List.of_mem_zip hv).1, if_neg hk]
    simp
  | p :: P, w :: vs, i + 1, m, nd, h1, h2, hk => by
    show bindC kindOf ((p, w) :: P.zip vs) m x = _
    unfold bindC
    exact bindC_get (i := i) (List.nodup_cons.mp nd).2 (by simpa using h1) (by simpa using h2) hk

/-- the names' values at the entry -/
def start (N : List Str) (vs : List V) : St := vs.map some ++ List.replicate (N.length - vs.length) none

/-- the context of a def's body, at its entry; an exception leaves the frame, then lies as CX says -/
def cxOf (CX : CXT) (P : Program) (w : World) (K : PySem.W.Frag) (mg : Str → Option Value) (base : Heap) (N : List Str) (qual : Str) (scope : Scope) (f : Addr) (cd : Value) (A : Around) (outer : List Env) (s : Shared) (H : Hp) (E : XK) : Cx where
  prog := P
  w := w
  K := K
  mg := mg
  base := base
  A := A.deeper (envOfC qual scope s.heap.objs.size f cd)
  N := N
  s₀ := s
  H₀ := H
  env := envOfC qual scope s.heap.objs.size f cd
  outer := outer
  stack := envOfC qual scope s.heap.objs.size f cd :: outer
  ex := []
  calm := true
  fn := fun _ => true
  pn := []
  xe := fun e s' => wpAny (model P w) (A.deeper (envOfC qual scope s.heap.objs.size f cd)) (leaving (envOfC qual scope s.heap.objs.size f cd) e) (fun _ s'' => CX outer H s E e s'') (fun e' s'' => CX outer H s E e' s'') s'

theorem cell_has {sc : Scope} {n : Nat} {x : Str} (h : sc.names.lookup x = some .cell) : ∃ c, (cellsFrom n sc.names []).lookup x = some c := by
  have q := PySem.W.cellsFrom_some sc.names n [] (.inl h)
  exact Option.isSome_iff_exists.mp q

theorem inv_start {CX : CXT} {P : Program} {w : World} {K : PySem.W.Frag} {mg : Str → Option Value} {base : Heap} {N ps : List Str} {qual : Str} {scope : Scope} {f : Addr} {cd : Value} {A : Around} {outer : List Env} {s s1 : Shared} {H : Hp} {E : XK} {us : List Value} {vs : List V}
    (S : FnScope N ps scope) (hd : A.handled = none) (e0 : Env0 P w K mg base A outer s H) (hl : vs.length = ps.length) (r : Vals vs us)
    (x : InCallC s s.heap.objs.size (bindL (envOfC qual scope s.heap.objs.size f cd).kindOf (ps.zip us) fun _ => none) (cellsFrom (s.heap.objs.size + 1) scope.names []) (bindC (envOfC qual scope s.heap.objs.size f cd).kindOf (ps.zip us) fun _ => none) s1) :
    Inv (cxOf CX P w K mg base N qual scope f cd A outer s H E) [] (start N vs) H s1 := by
  have hpl : ps.length ≤ N.length := by have := congrArg List.length S.pre; rw [List.length_take] at this; omega
  obtain ⟨h1, tk, rfl, hk⟩ := x.done
  have noA : ∀ b : Addr, b ∉ (cxOf CX P w K mg base N qual scope f cd A outer s H E).ex := fun b z => absurd (show b ∈ ([] : List Addr) from z) (by simp)
  refine ⟨⟨e0.mod, S.kind, rfl, rfl, Nat.le_refl _, fun y z c h1 h2 => ?_, fun y hy => ?_, fun y c _ h => ?_, fun _ => hd, Around.frames_deeper e0.frames, .inr ⟨rfl, rfl⟩, fun b z => absurd z (noA b), e0.bs, e0.bsz, fun b _ _ => noA b, fun b z => absurd z (noA b), e0.funs, e0.frf⟩,
    rfl, e0.bare, Un.kept hk, ⟨_, x.toInCall.ns, fun i y v h1 h2 h3 => ?_⟩, fun y c h => ⟨_, x.cell y c h⟩, e0.hok.fresh (Nat.le_refl _), fun y c h => ?_, fun p hp => absurd (show p ∈ ([] : List (Addr × Obj)) from hp) (by simp), e0.hok.kept hk, ?_⟩
  · exact name_of_addr x.apart (PySem.mem_of_lookup h1) (PySem.mem_of_lookup h2)
  · have hy : scope.names.lookup y = some .cell ∨ scope.names.lookup y = some .free := hy
    rcases hy with hy | hy
    · exact cell_has hy
    · exact absurd rfl (S.nofree _ (PySem.mem_of_lookup hy))
  · exact Nat.le_of_lt (x.above y c (PySem.mem_of_lookup h))
  · have hi : i < vs.length := by
      unfold start at h2
      by_cases hi : i < vs.length
      · exact hi
      · rw [List.getElem?_append_right (by simpa using hi)] at h2
        rw [List.getElem?_replicate] at h2
        split at h2 <;> cases h2
    have ha : vs[i]? = some v := by
      unfold start at h2
      rw [List.getElem?_append_left (by simpa using hi), List.getElem?_map] at h2
      cases e : vs[i]? with
      | none => rw [e] at h2; cases h2
      | some a => rw [e] at h2; cases h2; rfl
    obtain ⟨u, hu, rv⟩ := r.get ha
    have hp : ps[i]? = some y := by
      rw [← S.pre, List.getElem?_take_of_lt (by omega)]; exact h1
    have ndP : ps.Nodup := by rw [← S.pre]; exact S.nd.sublist (List.take_sublist _ _)
    refine ⟨u, rv, ?_⟩
    rcases S.par y (List.mem_of_getElem? hp) with k | k
    · exact .inl ⟨k, bindL_get ndP hp hu k⟩
    · obtain ⟨c, e⟩ := cell_has (n := s.heap.objs.size + 1) k
      refine .inr ⟨.inl k, c, e, ?_⟩
      have q := x.cell y c e
      rw [bindC_get ndP hp hu (by show scope.names.lookup y ≠ _; rw [k]; decide)] at q
      exact q
  · exact e0.hok.fresh (Nat.le_of_lt (x.above y c (PySem.mem_of_lookup h)))
  · unfold start
    show _ = N.length
    rw [List.length_append, List.length_map, List.length_replicate]
    omega

/-- THE RULE: a def (or a method) of the text, by its body. The body's reading t is chosen for each entry; it is run at the parameters' values -/
theorem fn_of {CX : CXT} {P : Program} {w : World} {K : PySem.W.Frag} {mg : Str → Option Value} {base : Heap} {k : Nat} {f : Addr} {name qual : Str} {params : Arguments} {body : List Stmt} {scope : Scope} {dV kV doc pm cdv ct oc : Value} {an od : Option Addr}
    {osl : Array (Option Value)} {N ps : List Str} {sp : Sp} (lk : K.lookup f = some ⟨oc, od, .func (PySem.W.fnOf name qual params body scope dV kV doc pm an cdv ct), osl⟩) (hcd : PySem.W.codeIn K cdv qual = true) (S : FnScope N ps scope)
    (len : ∀ vs H Q E, sp vs H Q E → vs.length = ps.length)
    (hbody : ∀ (A : Around) (outer : List Env) (s : Shared) (H : Hp) (vs : List V) (Q : VK) (E : XK), Room k (A.deeper (envOfC qual scope s.heap.objs.size f cdv)) → sp vs H Q E →
      ∃ t, PSs (cxOf CX P w K mg base N qual scope f cdv A outer s H E) body t ∧ t { nx := fun _ H' => Q .non H', rt := Q } (start N vs) H) :
    FnOk P w K mg base CX (k + 1) f (PySem.W.fnOf name qual params body scope dV kV doc pm an cdv ct) ps sp := by
  refine ⟨len, fun A outer s H args us vs Q E hr e0 hb r hsp => ?_⟩
  have hl := len _ _ _ _ hsp
  have KX : K.In s.heap := e0.mod.kin.keeps fun b o e => (e0.bs b o e).1
  have lim : s.heap.NoLimit := e0.mod.nolimit.keeps fun b o e => (e0.bs b o e).1
  have hkind : ∀ y ∈ ps.zip us, scope.names.lookup y.1 = some .local ∨ (scope.names.lookup y.1 = some .cell ∧ ((cellsFrom (s.heap.objs.size + 1) scope.names []).lookup y.1).isSome = true) := fun ⟨n, v⟩ hy => by
    rcases S.par n (List.of_mem_zip hy).1 with q | q
    · exact .inl q
    · exact .inr ⟨q, PySem.W.cellsFrom_some _ _ _ (.inl q)⟩
  refine codeAny_call_function hr.depth (KX _ _ lk) rfl S.co S.gen rfl (PySem.W.codeRec_of KX hcd) (hb _ _ _ _ ?_)
  refine wpAny_newFunctionEnv_cells S.kind hkind fun env he s1 x => ?_
  subst he
  refine ⟨lim.keeps x.toInCall.keep, codeAny_func ?_⟩
  obtain ⟨t, ht, hq⟩ := hbody A outer s H vs Q E (hr.deeper _) hsp
  have I : Inv (cxOf CX P w K mg base N qual scope f cdv A outer s H E) [] (start N vs) H s1 := inv_start S hr.hd e0 hl r x
  refine wpAny_mono (ht [] s1 (start N vs) H _ I hq) (fun fl s' hs => ?_) fun e s' hs => hs
  have fin : ∀ {σ' : St} {H' : Hp} {v : V} {u : Value}, Inv (cxOf CX P w K mg base N qual scope f cdv A outer s H E) [] σ' H' s' → RelV v u → Q v H' → CE outer P w H s Q u s' :=
    fun {σ' H' v u} J rv q => ⟨v, H', J.os, J.bare, J.base, J.hok, rv, q⟩
  cases fl with
  | ret u =>
    obtain ⟨v, σ', H', J, rv, q⟩ := hs
    exact fin J rv q
  | next =>
    obtain ⟨σ', H', J, q⟩ := hs
    exact fin (v := V.non) (u := Value.none) J rfl q
  | brk =>
    obtain ⟨_, _, _, q⟩ := hs
    exact False.elim q
  | cont =>
    obtain ⟨_, _, _, q⟩ := hs
    exact False.elim q
end L2

namespace L2
open PySem PySem.Spec PyProof.Rows
section
variable {X : Cx} {x : Str} {p pos : Pos} {e : Expr} {es : List Expr} {t : TA} {id T : String} {r : List V → Hp → VK → Prop}

def tCB (r : List V → Hp → VK → Prop) (t : TA) : TE := fun σ H Q => t σ H fun vs H1 => r vs H1 Q
/-- f(e, ..), f a built-in function -/
theorem pe_callB (hc : CallR X (.builtin id) r) (hg : Gl X x) (hm : X.mg x = none) (hv : bootBuiltins x = some (.builtin id)) (ha : PA X (e :: es) t) (hn : x ≠ "__name__" := by decide) (hdb : (x == ("__debug__" : Str)) = false := by decide)
    (he : starEach (e :: es) X.env = (false, eval e X.env) :: starEach es X.env := by rfl) (hpl : (backTo pos (starEach es X.env)).any (·.1) = false := by rfl) : PE X (.Call (.Name x p) (e :: es) [] pos) (tCB r t) := by
  intro pins s σ H Q I h
  refine wpAny_Call_Name_kw (ld_blt I hg hm hv ?_ hn hdb)
  exact PyProof.Rows.callWith_builtin1 (thn (ha pos pins s σ H _ I h) fun us s1 ⟨vs, H1, I1, r1, q1⟩ => hc pins s1 σ H1 vs us Q I1 r1 q1) he hpl
/-- T(e, ..), T a built-in type -/
theorem pe_callTy (hc : CallR X (.type T) r) (hg : Gl X x) (hm : X.mg x = none) (hv : bootBuiltins x = some (.type T)) (ha : PA X (e :: es) t) (hn : x ≠ "__name__" := by decide) (hdb : (x == ("__debug__" : Str)) = false := by decide)
    (he : starEach (e :: es) X.env = (false, eval e X.env) :: starEach es X.env := by rfl) (hpl : (backTo pos (starEach es X.env)).any (·.1) = false := by rfl) : PE X (.Call (.Name x p) (e :: es) [] pos) (tCB r t) := by
  intro pins s σ H Q I h
  refine wpAny_Call_Name_kw (ld_blt I hg hm hv ?_ hn hdb)
  exact PyProof.Rows.callWith_type1 (thn (ha pos pins s σ H _ I h) fun us s1 ⟨vs, H1, I1, r1, q1⟩ => hc pins s1 σ H1 vs us Q I1 r1 q1) he hpl
end
end L2

namespace HT
open PySem PyProof.Rows

/-- t < u of tuples of ints -/
def lexLt : List Int → List Int → Bool
  | [], [] => false
  | [], _ :: _ => true
  | _ :: _, [] => false
  | x :: xs, y :: ys => if x = y then lexLt xs ys else decide (x < y)


section
open PySem.SeqAt
open PySem.AutoSeq1 (wpAny_loadPart')
open PySem.MeetsSeq PySem.MeetsSeq2 PySem.MeetsSeq3

end

section
variable {prog : Program} {w : World} {A : Around} {E : Value → Shared → Prop} {s : Shared}



/-! ### t[a:b], not the whole -/
/-- a slice's bound as a place among n (d where it is left out) -/
def sIx (n d : Nat) : Option Int → Nat
  | none => d
  | some v => if v < 0 then (v + (n : Int)).toNat else min v.toNat n
theorem sIx_none (n d : Nat) : sIx n d none = d := rfl
theorem sIx_nat (n d k : Nat) : sIx n d (some (k : Int)) = min k n := by
  show (if (k : Int) < 0 then ((k : Int) + (n : Int)).toNat else min (k : Int).toNat n) = min k n
  rw [if_neg (by omega), Int.toNat_natCast]
theorem sIx_le (n d : Nat) (hd : d ≤ n) (o : Option Int) : sIx n d o ≤ n := by
  cases o with
  | none => exact hd
  | some v =>
    show (if v < 0 then (v + (n : Int)).toNat else min v.toNat n) ≤ n
    by_cases hv : v < 0
    · rw [if_pos hv]; omega
    · rw [if_neg hv]; exact Nat.min_le_right _ _

end
end HT

namespace L2
open PySem PySem.Spec PyProof.Rows

/-! ### the parts of a slice -/
abbrev TO := St → Hp → (Option Int → Hp → Prop) → Prop
/-- a slice's part (left out, or an int) -/
def PO (X : Cx) (e : Option Expr) (t : TO) : Prop :=
  ∀ (pins : List (Addr × Obj)) (s : Shared) (σ : St) (H : Hp) (Q : Option Int → Hp → Prop), Inv X pins σ H s → t σ H Q →
    wpAny (model X.prog X.w) X.A (evalPart e X.env) (fun u s' => ∃ o H', Inv X pins σ H' s' ∧ IsPart u o ∧ Q o H') X.xe s
def tNoPart : TO := fun _ H Q => Q none H
def tPart (t : TE) : TO := fun σ H Q => t σ H fun x H1 => ∃ i, x = .int i ∧ Q (some i) H1


section
variable {X : Cx} {e : Expr} {te : TE} {lo hi : Option Expr} {tl th : TO} {pos p2 : Pos}

theorem po_none : PO X none tNoPart := by
  intro pins s σ H Q I h
  rw [evalPart_none]
  exact wpAny_pure ⟨none, H, I, .none, h⟩
theorem po_some (h : PE X e te) : PO X (some e) (tPart te) := by
  intro pins s σ H Q I hw
  rw [evalPart_some]
  refine thn (h pins s σ H _ I hw) fun u s1 ⟨x, H1, I1, r1, q1⟩ => ?_
  obtain ⟨i, rfl, q⟩ := q1
  obtain ⟨t, rfl⟩ := r1
  exact ⟨some i, H1, I1, .int i t, q⟩

/-- what a slice of a value is, by values: the slice object stands at sl -/
def SlR (X : Cx) (r : V → Option Int → Option Int → Hp → VK → Prop) : Prop :=
  ∀ (pins : List (Addr × Obj)) (s : Shared) (σ : St) (H : Hp) (x : V) (v vl vu : Value) (lo hi : Option Int) (sl : Addr) (Q : VK), Inv X pins σ H s → RelV x v → s.heap.IsSliceOf sl vl vu .none → IsPart vl lo → IsPart vu hi → r x lo hi H Q →
    ∃ T id, typeLookup (.type T) "__getitem__" = pure (some (.builtin id)) ∧ s.TypeIs v T ∧ wpAny (model X.prog X.w) X.A (getItem v (.ref sl)) (EP X pins σ Q) X.xe s
theorem SlR.or {r r' : V → Option Int → Option Int → Hp → VK → Prop} (h : SlR X r) (h' : SlR X r') : SlR X (fun x lo hi H Q => r x lo hi H Q ∨ r' x lo hi H Q) := by
  intro pins s σ H x v vl vu lo hi sl Q I rx hs pl pu q
  rcases q with q | q
  · exact h pins s σ H x v vl vu lo hi sl Q I rx hs pl pu q
  · exact h' pins s σ H x v vl vu lo hi sl Q I rx hs pl pu q
def tSl (r : V → Option Int → Option Int → Hp → VK → Prop) (te : TE) (tl th : TO) : TE := fun σ H Q => te σ H fun x H1 => tl σ H1 fun l H2 => th σ H2 fun u H3 => r x l u H3 Q
/-- a[lo:hi], any a -/
theorem pe_slice {r : V → Option Int → Option Int → Hp → VK → Prop} (hr : SlR X r) (he : PE X e te) (hl : PO X lo tl) (hu : PO X hi th) : PE X (.Subscript e (.Slice lo hi none p2) pos) (tSl r te tl th) := by
  intro pins s σ H Q I h
  refine Subscript_ (thn (he pins s σ H _ I h) fun v s1 ⟨x, H1, I1, r1, q1⟩ => ?_)
  refine wpAny_Slice (thn (hl pins s1 σ H1 _ I1 q1) fun vl s2 ⟨l, H2, I2, pl, q2⟩ => thn (hu pins s2 σ H2 _ I2 q2) fun vu s3 ⟨u, H3, I3, pu, q3⟩ => ?_)
  rw [evalPart_none]
  refine wpAny_pure ?_
  have I4 : Inv X pins σ H3 { s3 with heap := s3.heap.push { cls := .type "slice", data := .fields #[vl, vu, .none] } } := I3.kept (t' := s3.toks) fun b ob q => Heap.get?_push_of_some _ q
  obtain ⟨T, id, hT, ht, hg⟩ := hr pins { s3 with heap := s3.heap.push { cls := .type "slice", data := .fields #[vl, vu, .none] } } σ H3 x v vl vu l u s3.heap.objs.size Q I4 r1 (Heap.IsSliceOf.new ..) pl pu q3
  show wpAny (model X.prog X.w) X.A (subscriptTail e (.Slice lo hi none p2) v (.ref s3.heap.objs.size)) (EP X pins σ Q) X.xe { s3 with heap := s3.heap.push { cls := .type "slice", data := .fields #[vl, vu, .none] } }
  exact tail_any (ops := [.ref s3.heap.objs.size, v]) ht hT hg (by with_unfolding_all rfl)

/-- the items of xs[lo:hi] -/
def cutV (xs : List V) (lo hi : Option Int) : List V := (xs.drop (HT.sIx xs.length 0 lo)).take (HT.sIx xs.length xs.length hi - HT.sIx xs.length 0 lo)
/-- t[lo:hi], not the whole of it (the whole would be t itself) -/
def rSlT (K : PySem.W.Frag) : V → Option Int → Option Int → Hp → VK → Prop := fun x lo hi H Q => ∃ a xs, x = .ref a ∧ SqT K H a xs ∧
  ¬ (HT.sIx xs.length 0 lo = 0 ∧ HT.sIx xs.length xs.length hi = xs.length) ∧ ∀ p, H p = none → Q (.ref p) (upd H p (.tup (cutV xs lo hi)))

/-! ### t < u, t + u -/
def rLtT (K : PySem.W.Frag) : R2 := fun x y H Q => ∃ a b ns ms, x = .ref a ∧ y = .ref b ∧ SqT K H a (ns.map V.int) ∧ SqT K H b (ms.map V.int) ∧ Q (.bl (HT.lexLt ns ms)) H
/-- t + u, t not empty: u empty gives t itself -/
def rCatT (K : PySem.W.Frag) : R2 := fun x y H Q => ∃ a b xs ys, x = .ref a ∧ y = .ref b ∧ SqT K H a xs ∧ SqT K H b ys ∧ xs ≠ [] ∧ xs.length + ys.length ≤ sizeLine ∧
  (ys = [] → Q (.ref a) H) ∧ (ys ≠ [] → ∀ p, H p = none → Q (.ref p) (upd H p (.tup (xs ++ ys))))
end
end L2

namespace L2
open PySem PySem.Spec PyProof.Rows

/-! ### places -/
/-- the place that an index of any sign means -/
def ixN (n : Nat) (i : Int) : Option Nat := if 0 ≤ i then (if i < n then some i.toNat else none) else if -(n : Int) ≤ i then some (i + n).toNat else none
def atI {α : Type} (xs : List α) (i : Int) : Option α := (ixN xs.length i).bind fun j => xs[j]?
theorem ixN_seq {n : Nat} {i : Int} {j : Nat} (h : ixN n i = some j) : seqIndex? i n = some j ∧ j < n ∧ -(n : Int) ≤ i ∧ i < n := by
  unfold ixN at h
  by_cases h0 : 0 ≤ i
  · rw [if_pos h0] at h
    by_cases h1 : i < n
    · rw [if_pos h1] at h
      have e : i.toNat = j := Option.some.inj h
      exact ⟨by rw [seqIndex_of h0 h1, e], by omega, by omega, h1⟩
    · rw [if_neg h1] at h; cases h
  · rw [if_neg h0] at h
    by_cases h1 : -(n : Int) ≤ i
    · rw [if_pos h1] at h
      have e : (i + n).toNat = j := Option.some.inj h
      exact ⟨by rw [seqIndex_neg (by omega) h1, e], by omega, h1, by omega⟩
    · rw [if_neg h1] at h; cases h
theorem atI_get {α : Type} {xs : List α} {i : Int} {v : α} (h : atI xs i = some v) : ∃ j, seqIndex? i xs.length = some j ∧ xs[j]? = some v ∧ j < xs.length ∧ -(xs.length : Int) ≤ i ∧ i < xs.length := by
  unfold atI at h
  cases e : ixN xs.length i with
  | none => rw [e] at h; cases h
  | some j =>
    rw [e] at h
    obtain ⟨h1, h2, h3, h4⟩ := ixN_seq e
    exact ⟨j, h1, h, h2, h3, h4⟩
theorem atI_nat {α : Type} {xs : List α} {j : Nat} {v : α} (h : xs[j]? = some v) : atI xs (j : Int) = some v := by
  have hj : j < xs.length := (List.getElem?_eq_some_iff.mp h).1
  have e : ixN xs.length (j : Int) = some j := by
    unfold ixN
    rw [if_pos (by omega), if_pos (by omega)]; simp
  unfold atI; rw [e]; exact h

/-! ### what may be subscripted -/
/-- what stands as an index of a plain subscript -/
def PlainIx (b : Expr) : Prop := ∀ o i, subscripted b false o i = operate [o, i] (getItem o i)
/-- a subscript by values -/
def IxR (X : Cx) (r : R2) : Prop :=
  ∀ (value slice : Expr) (pins : List (Addr × Obj)) (s : Shared) (σ : St) (H : Hp) (x y : V) (v u : Value) (Q : VK), Inv X pins σ H s → RelV x v → RelV y u → r x y H Q →
    subscripted slice false v u = operate [v, u] (getItem v u) → wpAny (model X.prog X.w) X.A (subscriptTail value slice v u) (EP X pins σ Q) X.xe s
/-- a call of a builtin's method by values: the receiver, the arguments -/
def MtR (X : Cx) (id : String) (r : V → List V → Hp → VK → Prop) : Prop :=
  ∀ (pins : List (Addr × Obj)) (s : Shared) (σ : St) (H : Hp) (x : V) (xs : List V) (v : Value) (us : List Value) (Q : VK), Inv X pins σ H s → RelV x v → Vals xs us → r x xs H Q →
    wpAny (model X.prog X.w) X.A (call (.builtin id) (v :: us)) (EP X pins σ Q) X.xe s
section
variable {X : Cx} {a b : Expr} {ta tb : TE} {pos : Pos}
theorem IxR.or {r r' : R2} (h : IxR X r) (h' : IxR X r') : IxR X (fun x y H Q => r x y H Q ∨ r' x y H Q) := by
  intro value slice pins s σ H x y v u Q I rx ry q hs
  rcases q with q | q
  · exact h value slice pins s σ H x y v u Q I rx ry q hs
  · exact h' value slice pins s σ H x y v u Q I rx ry q hs
theorem MtR.or {id : String} {r r' : V → List V → Hp → VK → Prop} (h : MtR X id r) (h' : MtR X id r') : MtR X id (fun x xs H Q => r x xs H Q ∨ r' x xs H Q) := by
  intro pins s σ H x xs v us Q I rx rs q
  rcases q with q | q
  · exact h pins s σ H x xs v us Q I rx rs q
  · exact h' pins s σ H x xs v us Q I rx rs q
/-- a[b] -/
theorem pe_ix {r : R2} (hr : IxR X r) (ha : PE X a ta) (hb : PE X b tb) (hs : PlainIx b) : PE X (.Subscript a b pos) (tOp r ta tb) := by
  intro pins s σ H Q I h
  exact Subscript_ (binT ha hb I h fun v u s2 x y H2 I2 rx ry q => hr a b pins s2 σ H2 x y v u Q I2 rx ry q (hs _ _))

def rIxL (K : PySem.W.Frag) : R2 := fun x y H Q => ∃ p xs i v, x = .ref p ∧ y = .int i ∧ SqL K H p xs ∧ atI xs i = some v ∧ Q v H
def rIxT (K : PySem.W.Frag) : R2 := fun x y H Q => ∃ p xs i v, x = .ref p ∧ y = .int i ∧ SqT K H p xs ∧ atI xs i = some v ∧ Q v H
def rIxS : R2 := fun x y H Q => ∃ z i c, x = .str z ∧ y = .int i ∧ z.length ≤ sizeLine ∧ atI z.cps.toList i = some c ∧ Q (.str ⟨#[c]⟩) H
theorem ix_list : IxR X (rIxL X.K) := by
  intro value slice pins s σ H x y v u Q I rx ry h hs
  obtain ⟨p, xs, i, z, rfl, rfl, hq, he, q⟩ := h
  cases rx
  obtain ⟨t, rfl⟩ := ry
  obtain ⟨its, r, pl, hz⟩ := I.list hq
  obtain ⟨j, h1, h2, h3, h4, h5⟩ := atI_get he
  obtain ⟨w, ew, rw'⟩ := r.get h2
  have hl := r.length
  have hn := line63
  have fin : EP X pins σ Q w s := ⟨z, H, I, rw', q⟩
  by_cases h0 : 0 ≤ i
  · have hj : i.toNat = j := by
      rw [seqIndex_of h0 h5] at h1
      exact Option.some.inj h1
    exact item_listR pl.isList h0 (by omega) (by rw [hj]; simpa using ew) fin hs
  · have hj : (i + (its.toArray.size : Int)).toNat = j := by
      rw [seqIndex_neg (by omega) h4] at h1
      rw [List.size_toArray, ← hl]
      exact Option.some.inj h1
    exact subscriptTail_builtinR (x := w) pl.isList.typeIs slot_list_getitem.lookup
      (wpAny_getItem_list_neg (Q := fun r s' => r = w ∧ EP X pins σ Q r s') pl.isList (by omega) (by rw [List.size_toArray] <;> omega) (by omega) (by rw [hj]; simpa using ew) ⟨rfl, fin⟩) hs
theorem ix_tup : IxR X (rIxT X.K) := by
  intro value slice pins s σ H x y v u Q I rx ry h hs
  obtain ⟨p, xs, i, z, rfl, rfl, hq, he, q⟩ := h
  cases rx
  obtain ⟨t, rfl⟩ := ry
  obtain ⟨its, r, pl, hz⟩ := I.tuple hq
  obtain ⟨j, h1, h2, h3, h4, h5⟩ := atI_get he
  obtain ⟨w, ew, rw'⟩ := r.get h2
  have hl := r.length
  have hn := line63
  have fin : EP X pins σ Q w s := ⟨z, H, I, rw', q⟩
  exact subscriptTail_builtinR (x := w) pl.typeIs slot_tuple_getitem.lookup
    (getItem_tuple (j := j) (Q := fun r s' => r = w ∧ EP X pins σ Q r s') pl (by omega) (by omega) (by rw [List.size_toArray, ← hl]; exact h1) (by simpa using ew) ⟨rfl, fin⟩) hs
theorem ix_str : IxR X rIxS := by
  intro value slice pins s σ H x y v u Q I rx ry h hs
  obtain ⟨z, i, c, rfl, rfl, hz, he, q⟩ := h
  obtain ⟨t, rfl⟩ := rx
  obtain ⟨t', rfl⟩ := ry
  obtain ⟨j, h1, h2, h3, h4, h5⟩ := atI_get he
  have hl : z.cps.toList.length = z.length := by simp [Str.length]
  rw [hl] at h1 h4 h5
  have hn := line63
  exact tail_any (typeIs_str s z t) slot_str_getitem.lookup (getItem_str (c := c) (by
    have e1 : decide (i < -(2 ^ 63 : Int)) = false := decide_eq_false (by omega)
    have e2 : decide (i ≥ 2 ^ 63) = false := decide_eq_false (by omega)
    rw [e1, e2, Bool.or_false]) (by rw [h1]; simpa using h2) ⟨.str ⟨#[c]⟩, H, I.tok _, ⟨_, rfl⟩, q⟩) hs
/-- list, tuple or str -/
def rIx (K : PySem.W.Frag) : R2 := fun x y H Q => rIxL K x y H Q ∨ rIxT K x y H Q ∨ rIxS x y H Q

/-! ### xs[i] = v, any sign -/
theorem Inv.lst {pins : List (Addr × Obj)} {σ : St} {H : Hp} {s : Shared} {p : Addr} {xs : List V} (I : Inv X pins σ H s) (h : H p = some (.lst xs)) :
    ∃ (its : List Value) (n : Nat), Vals xs its ∧ s.heap.get? p = some { cls := .type "list", data := .seq its.toArray n } ∧ xs.length ≤ sizeLine := by
  obtain ⟨z, its, n, r, e⟩ := I.hok p _ h
  exact ⟨its, n, r, e, z⟩
def rSetL : V → V → V → Hp → (Hp → Prop) → Prop := fun o i v H Q => ∃ p xs k j, o = .ref p ∧ i = .int k ∧ H p = some (.lst xs) ∧ ixN xs.length k = some j ∧ Q (upd H p (.lst (xs.set j v)))

/-! ### slices -/
/-- xs[lo:hi] of a list: a new list -/
def rSlL (K : PySem.W.Frag) : V → Option Int → Option Int → Hp → VK → Prop := fun x lo hi H Q => ∃ a xs, x = .ref a ∧ SqL K H a xs ∧ ∀ p, H p = none → Q (.ref p) (upd H p (.lst (cutV xs lo hi)))

/-! ### in, not in: flat items -/
def flatV : V → Bool
  | .non => true
  | .bl _ => true
  | .int _ => true
  | .str _ => true
  | _ => false
/-- == of flat values -/
def eqV : V → V → Bool
  | .non, .non => true
  | .bl a, .bl b => a == b
  | .bl a, .int b => (if a then 1 else 0) == b
  | .int a, .bl b => a == (if b then 1 else 0)
  | .int a, .int b => a == b
  | .str a, .str b => a == b
  | _, _ => false
theorem eqAt_V {A : Around} {s : Shared} {y x : V} {u v : Value} (ry : RelV y u) (rx : RelV x v) (fy : flatV y = true) (fx : flatV x = true) : SeqAt.EqAt A s u v (eqV y x) := by
  cases y with
  | non =>
    cases ry
    cases x with
    | non => cases rx; exact SeqAt.EqAt.same _
    | bl b => cases rx; exact SeqAt.EqAt.none_bool b
    | int b => obtain ⟨t, rfl⟩ := rx; exact SeqAt.EqAt.none_int b t
    | str b => obtain ⟨t, rfl⟩ := rx; exact SeqAt.EqAt.none_str b t
    | _ => exact absurd (show false = true from fx) Bool.false_ne_true
  | bl a =>
    cases ry
    cases x with
    | non => cases rx; exact SeqAt.EqAt.bool_none a
    | bl b => cases rx; exact SeqAt.EqAt.bool_bool a b
    | int b => obtain ⟨t, rfl⟩ := rx; exact SeqAt.EqAt.bool_int a b t
    | str b => obtain ⟨t, rfl⟩ := rx; exact SeqAt.EqAt.bool_str a b t
    | _ => exact absurd (show false = true from fx) Bool.false_ne_true
  | int a =>
    obtain ⟨t', rfl⟩ := ry
    cases x with
    | non => cases rx; exact SeqAt.EqAt.int_none a t'
    | bl b => cases rx; exact SeqAt.EqAt.int_bool a t' b
    | int b => obtain ⟨t, rfl⟩ := rx; exact SeqAt.EqAt.int_int a t' b t
    | str b => obtain ⟨t, rfl⟩ := rx; exact SeqAt.EqAt.int_str a t' b t
    | _ => exact absurd (show false = true from fx) Bool.false_ne_true
  | str a =>
    obtain ⟨t', rfl⟩ := ry
    cases x with
    | non => cases rx; exact SeqAt.EqAt.str_none a t'
    | bl b => cases rx; exact SeqAt.EqAt.str_bool a t' b
    | int b => obtain ⟨t, rfl⟩ := rx; exact SeqAt.EqAt.str_int a t' b t
    | str b => obtain ⟨t, rfl⟩ := rx; exact SeqAt.EqAt.str_str a t' b t
    | _ => exact absurd (show false = true from fx) Bool.false_ne_true
  | _ => exact absurd (show false = true from fy) Bool.false_ne_true
/-- the items' answers, read off the values (a value's own answer does not lean on its token) -/
def eqU (x : V) (u : Value) : Bool := match u with
  | .none => eqV .non x
  | .bool b => eqV (.bl b) x
  | .int i _ => eqV (.int i) x
  | .str z _ => eqV (.str z) x
  | _ => false
def inV (x : V) (xs : List V) : Bool := xs.any fun y => eqV y x
/-- x in a list or tuple of flat items -/
def rIn (K : PySem.W.Frag) (neg : Bool) : R2 := fun x y H Q => ∃ p xs, y = .ref p ∧ (SqL K H p xs ∨ SqT K H p xs) ∧ flatV x = true ∧ xs.all flatV = true ∧ Q (.bl (if neg then !inV x xs else inV x xs)) H

/-! ### len, list(x), tuple(x) of any list or tuple that is read -/
theorem CallR.or {f : Value} {r r' : List V → Hp → VK → Prop} (h : CallR X f r) (h' : CallR X f r') : CallR X f (fun xs H Q => r xs H Q ∨ r' xs H Q) := by
  intro pins s σ H xs us Q I rs q
  rcases q with q | q
  · exact h pins s σ H xs us Q I rs q
  · exact h' pins s σ H xs us Q I rs q

/-! ### the call of a builtin's method: o.m(..) -/
/-- the value is of that builtin type -/
def tyV (K : PySem.W.Frag) (T : String) (x : V) (H : Hp) : Prop := match x with
  | .str _ => T = "str"
  | .int _ => T = "int"
  | .ref p => (T = "list" ∧ ∃ xs, SqL K H p xs) ∨ (T = "tuple" ∧ ∃ o, K.lookup p = some o ∧ o.cls = .type "tuple" ∧ o.dict = none) ∨
      (T = "dict" ∧ ((∃ kvs, H p = some (.dK kvs)) ∨ ∃ kvs, H p = some (.dT kvs))) ∨ (T = "set" ∧ ∃ S n, H p = some (.set S n))
  | _ => False
theorem tyV_is {pins : List (Addr × Obj)} {σ : St} {H : Hp} {s : Shared} {T : String} {x : V} {v : Value} (I : Inv X pins σ H s) (r : RelV x v) (ty : tyV X.K T x H) :
    s.TypeIs v T ∧ ∀ a, v = .ref a → ∃ ob, s.heap.get? a = some ob ∧ ob.dict = none := by
  cases x with
  | str z =>
    obtain ⟨t, rfl⟩ := r
    cases (show T = "str" from ty)
    exact ⟨typeIs_str s z t, fun _ e => nomatch e⟩
  | int i =>
    obtain ⟨t, rfl⟩ := r
    cases (show T = "int" from ty)
    exact ⟨typeIs_int s i t, fun _ e => nomatch e⟩
  | ref p =>
    cases r
    rcases ty with ⟨rfl, xs, hq⟩ | ⟨rfl, o, hk, hc, hd⟩ | ⟨rfl, hk⟩ | ⟨rfl, S, n, hk⟩
    · obtain ⟨its, _, pl, _⟩ := I.list hq
      refine ⟨pl.isList.typeIs, fun a e => ?_⟩
      cases e
      obtain ⟨o, n, e, c, hd, _⟩ := pl
      exact ⟨o, e, hd⟩
    · refine ⟨⟨o, I.kIn p o hk, hc⟩, fun a e => ?_⟩
      cases e
      exact ⟨o, I.kIn _ o hk, hd⟩
    · have z : ∃ o, s.heap.get? p = some o ∧ o.ExactDict := by
        rcases hk with ⟨kvs, hk⟩ | ⟨kvs, hk⟩
        · obtain ⟨_, _, _, _, o, _, _, e, ex, _⟩ := I.hok p _ hk
          exact ⟨o, e, ex⟩
        · obtain ⟨_, _, _, _, o, _, _, e, ex, _⟩ := I.hok p _ hk
          exact ⟨o, e, ex⟩
      obtain ⟨o, e, ex⟩ := z
      refine ⟨⟨o, e, ex.1⟩, fun a e2 => ?_⟩
      cases e2
      exact ⟨o, e, ex.2.1⟩
    · obtain ⟨o, _, _, _, e, ex, _⟩ := I.hok p _ hk
      refine ⟨⟨o, e, ex.1⟩, fun a e2 => ?_⟩
      cases e2
      exact ⟨o, e, ex.2.1⟩
  | _ => exact False.elim ty
def tBM0 (K : PySem.W.Frag) (T : String) (r : V → List V → Hp → VK → Prop) (to : TE) : TE := fun σ H Q => to σ H fun x H1 => tyV K T x H1 ∧ r x [] H1 Q
def tBM (K : PySem.W.Frag) (T : String) (r : V → List V → Hp → VK → Prop) (to : TE) (t : TA) : TE := fun σ H Q => to σ H fun x H1 => tyV K T x H1 ∧ t σ H1 fun xs H2 => r x xs H2 Q
variable {o e : Expr} {es : List Expr} {to : TE} {t : TA} {name : Str} {apos cpos : Pos} {T id : String} {r : V → List V → Hp → VK → Prop}
theorem pe_bm0 (pa : PlainAttrs T) (slot : Slot T name id) (hty : typeOf (.builtin id) = pure (.type "method_descriptor")) (hm : MtR X id r) (ho : PE X o to)
    (hbase : attributeBase o name X.env (eval o X.env) = eval o X.env := by rfl) (hline : (apos.endLine == cpos.line) = true := by rfl) : PE X (.Call (.Attribute o name apos) [] [] cpos) (tBM0 X.K T r to) := by
  intro pins s σ H Q I h
  refine wpAny_Call_method0_late hbase hline (thn (ho pins s σ H _ I h) fun v s1 ⟨x, H1, I1, r1, ty, q1⟩ => ?_)
  obtain ⟨h1, h2⟩ := tyV_is I1 r1 ty
  exact ⟨T, id, pa, slot, hty, h1, h2, Calls.callWith_builtin rfl (PySem.evalArgs_none (hm pins s1 σ H1 x [] v [] Q I1 r1 .nil q1))⟩
theorem pe_bm (pa : PlainAttrs T) (slot : Slot T name id) (hty : typeOf (.builtin id) = pure (.type "method_descriptor")) (hm : MtR X id r) (ho : PE X o to) (ha : PA X (e :: es) t)
    (hbase : attributeBase o name X.env (eval o X.env) = eval o X.env := by rfl)
    (hfew : ((backTo cpos (starEach (e :: es) X.env)).all (fun x => !x.1) && (backToKw cpos (keywordEach [] X.env)).all (fun x => x.1.isSome)
      && decide ((e :: es).length + ([] : List Keyword).length + (if ([] : List Keyword).isEmpty then 0 else 1) < 30)) = true := by rfl)
    (hline : (apos.endLine == cpos.line) = true := by rfl) (hs : starEach (e :: es) X.env = (false, eval e X.env) :: starEach es X.env := by rfl) (hplain : (backTo cpos (starEach es X.env)).any (·.1) = false := by rfl) :
    PE X (.Call (.Attribute o name apos) (e :: es) [] cpos) (tBM X.K T r to t) := by
  intro pins s σ H Q I h
  refine wpAny_Call_method_late hbase hfew hline rfl (thn (ho pins s σ H _ I h) fun v s1 ⟨x, H1, I1, r1, ty, q1⟩ => ?_)
  obtain ⟨h1, h2⟩ := tyV_is I1 r1 ty
  refine ⟨T, id, pa, slot, hty, h1, h2, ?_⟩
  have hA := ha cpos pins s1 σ H1 _ I1 q1
  rw [hs] at hA ⊢
  refine Calls.callWith_builtin (by show (false || (backTo cpos (starEach es X.env)).any (·.1)) = false; rw [hplain] <;> rfl) (Calls.evalArgs_plain ?_)
  exact thn hA fun us s2 ⟨vs, H2, I2, r2, q2⟩ => hm pins s2 σ H2 x vs v us Q I2 r1 r2 q2
/- xs.append(e), list.index on a module's tuple .. are MtR facts of 06m -/
end
end L2

namespace L2
open PySem PySem.Spec PyProof.Rows

def MtM (X : Cx) (id : String) (r : V → List V → Hp → VK → Prop) : Prop :=
  ∀ (pins : List (Addr × Obj)) (s : Shared) (σ : St) (H : Hp) (x : V) (xs : List V) (v : Value) (us : List Value) (Q : VK), Inv X pins σ H s → RelV x v → Vals xs us → r x xs H Q →
    wpAny (model X.prog X.w) X.A (call (.builtin id) (v :: us)) (EP X pins σ Q) X.xe s

/-! ### lists of values -/
theorem Vals.one : ∀ {x : V} {us : List Value}, Vals [x] us → ∃ u, us = [u] ∧ RelV x u
  | _, _, .cons r .nil => ⟨_, rfl, r⟩
theorem Vals.two : ∀ {x y : V} {us : List Value}, Vals [x, y] us → ∃ u v, us = [u, v] ∧ RelV x u ∧ RelV y v
  | _, _, _, .cons r (.cons q .nil) => ⟨_, _, rfl, r, q⟩
theorem Vals.dropLast {xs : List V} {us : List Value} (h : Vals xs us) : Vals xs.dropLast us.dropLast := by
  induction h with
  | nil => exact .nil
  | cons r t ih =>
    cases t with
    | nil => exact .nil
    | cons q t' => exact .cons r ih
theorem Vals.eraseIdx : ∀ {xs : List V} {us : List Value} (i : Nat), Vals xs us → Vals (xs.eraseIdx i) (us.eraseIdx i)
  | _, _, _, .nil => .nil
  | _, _, 0, .cons _ t => t
  | _, _, i + 1, .cons r t => .cons r (Vals.eraseIdx i t)
theorem Vals.reverse {xs : List V} {us : List Value} (h : Vals xs us) : Vals xs.reverse us.reverse := by
  induction h with
  | nil => exact .nil
  | cons r t ih => rw [List.reverse_cons, List.reverse_cons]; exact Vals.append ih (.cons r .nil)
theorem Vals.rep {xs : List V} {us : List Value} (h : Vals xs us) : ∀ k : Nat, Vals (List.replicate k xs).flatten (List.replicate k us).flatten
  | 0 => .nil
  | k + 1 => by
    rw [List.replicate_succ, List.replicate_succ, List.flatten_cons, List.flatten_cons]
    exact Vals.append h (Vals.rep h k)

section
variable {X : Cx} {pins : List (Addr × Obj)} {σ : St} {H : Hp} {s : Shared} {l b : Addr} {xs ys zs : List V}

/-! ### the two steps: a tracked list is rewritten, a new list is laid -/
theorem Inv.lset {its its' : List Value} {n : Nat} {f : Array Value → Array Value} {t' : Nat} (I : Inv X pins σ H s) (hH : H l = some (.lst xs))
    (e : s.heap.get? l = some { cls := .type "list", data := .seq its.toArray n }) (hf : f its.toArray = its'.toArray) (hv : Vals ys its') (hz : ys.length ≤ sizeLine) :
    Inv X pins σ (upd H l (.lst ys)) { s with heap := s.heap.update l (Obj.mapSeq f), toks := t' } := by
  have q := PySem.IsL.update e f
  rw [hf] at q
  refine I.write (x := l) (e := l) (by rw [hH]; exact trivial) (.inl rfl) (fun b' u hb hu => (Heap.get?_update_other s.heap (Obj.mapSeq f) (Ne.symm hb)).trans hu) ⟨_, q⟩ ?_
  exact ⟨hz, its', _, hv, q⟩
theorem Inv.lnew {its : List Value} {t' : Nat} (I : Inv X pins σ H s) (hv : Vals ys its) (hz : ys.length ≤ sizeLine) :
    Inv X pins σ (upd H s.heap.objs.size (.lst ys)) { s with heap := s.heap.push { cls := .type "list", data := .seq its.toArray }, toks := t' } :=
  I.laid (fun _ _ q => Heap.get?_push_of_some _ q) (Nat.le_refl _) ⟨hz, its, 0, hv, Heap.get?_push_size _ rfl⟩
theorem Inv.fresh (I : Inv X pins σ H s) : H s.heap.objs.size = none := I.hok.fresh (Nat.le_refl _)
theorem Inv.lstM (I : Inv X pins σ H s) (hH : H l = some (.lst xs)) : xs.length ≤ sizeLine ∧ ∃ (its : List Value) (n : Nat), Vals xs its ∧ xs.length = its.length ∧ s.heap.get? l = some { cls := .type "list", data := .seq its.toArray n } := by
  obtain ⟨z, its, n, r, e⟩ := I.hok l _ hH
  exact ⟨z, its, n, r, r.length, e⟩

theorem notLongL {n : Nat} (h : n ≤ sizeLine) : Builtin.List.listTooLong n = false := by
  unfold Builtin.List.listTooLong
  exact decide_eq_false (by omega)
end

section
variable {X : Cx}

/-! ### methods -/
def rAppend : V → List V → Hp → VK → Prop := fun x vs H Q => ∃ l xs y, x = .ref l ∧ vs = [y] ∧ H l = some (.lst xs) ∧ xs.length < sizeLine ∧ Q .non (upd H l (.lst (xs ++ [y])))
theorem mt_append : MtM X "list.append" rAppend := by
  intro pins s σ H x vs v us Q I rx rv h
  obtain ⟨l, xs, y, rfl, rfl, hH, hz, q⟩ := h
  cases rx
  obtain ⟨u, rfl, ru⟩ := rv.one
  obtain ⟨z, its, n, r, hl, e⟩ := I.lstM hH
  refine call_meets F.slot_list_append ⟨_, e, rfl⟩ F.entry_list_append (F.args_list_append_2 _ _) (PySem.list_append l its.toArray n u (by rw [List.size_toArray]; omega)) ⟨e, ?_⟩
  refine ⟨.non, _, I.lset (its' := its ++ [u]) hH e (by simp) (r.append (.cons ru .nil)) ?_, rfl, q⟩
  rw [List.length_append, List.length_singleton]
  omega

def rExtend : V → List V → Hp → VK → Prop := fun x vs H Q => ∃ l b xs zs, x = .ref l ∧ vs = [.ref b] ∧ H l = some (.lst xs) ∧ H b = some (.lst zs) ∧ xs.length + zs.length ≤ sizeLine ∧ Q .non (upd H l (.lst (xs ++ zs)))
theorem mt_extend : MtM X "list.extend" rExtend := by
  intro pins s σ H x vs v us Q I rx rv h
  obtain ⟨l, b, xs, zs, rfl, rfl, hH, hB, hz, q⟩ := h
  cases rx
  obtain ⟨u, rfl, ru⟩ := rv.one
  cases ru
  obtain ⟨z, its, n, r, hl, e⟩ := I.lstM hH
  obtain ⟨z2, its2, n2, r2, hl2, e2⟩ := I.lstM hB
  have hsz : its.toArray.size + its2.toArray.size ≤ sizeLine := by rw [List.size_toArray, List.size_toArray]; omega
  have hlong : ¬ (!its.toArray.isEmpty && Builtin.List.listTooLong (its.toArray.size + its2.toArray.size)) = true := by
    rw [notLongL hsz, Bool.and_false]
    exact Bool.false_ne_true
  refine call_meets F.slot_list_extend ⟨_, e, rfl⟩ F.entry_list_extend (F.args_list_extend_2 _ _)
    (AutoSeq1.list_extend_list_list_0 l its.toArray n b its2.toArray n2 hlong (by rw [List.size_toArray]; omega) (by omega)) ⟨e, e2, ?_⟩
  refine ⟨.non, _, I.lset (its' := its ++ its2) hH e (by simp) (r.append r2) ?_, rfl, q⟩
  rw [List.length_append]
  omega

def rPop : V → List V → Hp → VK → Prop := fun x vs H Q => ∃ l xs y, x = .ref l ∧ vs = [] ∧ H l = some (.lst xs) ∧ xs[xs.length - 1]? = some y ∧ Q y (upd H l (.lst xs.dropLast))

def rPopAt : V → List V → Hp → VK → Prop := fun x vs H Q => ∃ l xs i k y, x = .ref l ∧ vs = [.int i] ∧ H l = some (.lst xs) ∧ -(2 ^ 63) ≤ i ∧ i < 2 ^ 63 ∧ seqIndex? i xs.length = some k ∧ xs[k]? = some y ∧ Q y (upd H l (.lst (xs.eraseIdx k)))

def rReverse : V → List V → Hp → VK → Prop := fun x vs H Q => ∃ l xs, x = .ref l ∧ vs = [] ∧ H l = some (.lst xs) ∧ Q .non (upd H l (.lst xs.reverse))

def rClear : V → List V → Hp → VK → Prop := fun x vs H Q => ∃ l xs, x = .ref l ∧ vs = [] ∧ H l = some (.lst xs) ∧ Q .non (upd H l (.lst []))

/-! ### list + list, list += list, list * int -/
def rCat : R2 := fun x y H Q => ∃ l b xs zs, x = .ref l ∧ y = .ref b ∧ H l = some (.lst xs) ∧ H b = some (.lst zs) ∧ xs.length + zs.length ≤ sizeLine ∧ ∀ p, H p = none → Q (.ref p) (upd H p (.lst (xs ++ zs)))
/-- a list times an int (a negative one is nothing) -/
def rRep : R2 := fun x y H Q => ∃ l k xs, x = .ref l ∧ y = .int k ∧ H l = some (.lst xs) ∧ -(2 ^ 63) ≤ k ∧ k < 2 ^ 63 ∧ xs.length * k.toNat ≤ sizeLine ∧
  ∀ p, H p = none → Q (.ref p) (upd H p (.lst (List.replicate k.toNat xs).flatten))

/-! ### del xs[i] -/
end

/-! ### xs[a:b] = ys -/
section
variable {prog : Program} {w : World} {A : Around} {E : Value → Shared → Prop} {s : Shared}
end

section
variable {X : Cx}
end
end L2

namespace L2
open PySem PySem.Spec PyProof.Rows

/-! ### lists of pairs as tables -/
section
variable {κ : Type} [DecidableEq κ]
def valV (kvs : List (κ × V)) (k : κ) : Option V := (kvs.find? fun kv => decide (kv.1 = k)).map (·.2)
/-- in its place, or at the end -/
def putK (kvs : List (κ × V)) (k : κ) (v : V) : List (κ × V) :=
  if (kvs.any fun kv => decide (kv.1 = k)) = true then kvs.map (fun kv => if kv.1 = k then (kv.1, v) else kv) else kvs ++ [(k, v)]
def dropK (kvs : List (κ × V)) (k : κ) : List (κ × V) := kvs.filter fun kv => decide (kv.1 ≠ k)

theorem valV_pos {p : κ × V} {r : List (κ × V)} {k : κ} (e : p.1 = k) : valV (p :: r) k = some p.2 := by simp [valV, List.find?_cons, e]
theorem valV_neg {p : κ × V} {r : List (κ × V)} {k : κ} (e : ¬ p.1 = k) : valV (p :: r) k = valV r k := by simp [valV, List.find?_cons, e]
theorem valV_any (k : κ) : ∀ kvs : List (κ × V), (kvs.any fun kv => decide (kv.1 = k)) = (valV kvs k).isSome
  | [] => rfl
  | p :: r => by
    rw [List.any_cons]
    by_cases e : p.1 = k
    · simp only [valV_pos e, decide_eq_true e, Bool.true_or, Option.isSome_some]
    · rw [valV_neg e, decide_eq_false e, Bool.false_or]; exact valV_any k r
theorem length_putK (kvs : List (κ × V)) (k : κ) (v : V) : (putK kvs k v).length ≤ kvs.length + 1 := by
  unfold putK
  split
  · rw [List.length_map]; omega
  · rw [List.length_append, List.length_cons, List.length_nil]; omega
theorem putK_new {kvs : List (κ × V)} {k : κ} (v : V) (h : valV kvs k = none) : putK kvs k v = kvs ++ [(k, v)] := by
  unfold putK
  rw [valV_any, h]
  exact if_neg (by decide)

theorem RelO.isSome_eq {o : Option V} {u : Option Value} (r : RelO o u) : o.isSome = u.isSome := by
  cases o with
  | none => cases u with
    | none => rfl
    | some _ => exact (show False from r).elim
  | some _ => cases u with
    | none => exact (show False from r).elim
    | some _ => rfl
theorem RelO.getD {o : Option V} {u : Option Value} {d : V} {d' : Value} (r : RelO o u) (rd : RelV d d') : RelV (o.getD d) (u.getD d') := by
  cases o with
  | none => cases u with
    | none => exact rd
    | some _ => exact (show False from r).elim
  | some _ => cases u with
    | none => exact (show False from r).elim
    | some _ => exact r

/-- raw tables of the same keys -/
theorem KV.val {kvs : List (κ × V)} {vs : List (κ × Value)} (r : KV kvs vs) (k : κ) : RelO (valV kvs k) (valueAt vs k) := by
  unfold KV at r
  induction r with
  | nil => exact True.intro
  | @cons p q ps qs h t ih =>
    obtain ⟨h1, h2⟩ := h
    by_cases e : p.1 = k
    · have e' : q.1 = k := h1.symm.trans e
      have b : valueAt (q :: qs) k = some q.2 := by simp [valueAt, List.find?_cons, e']
      rw [valV_pos e, b]; exact h2
    · have e' : ¬ q.1 = k := fun z => e (h1.trans z)
      have b : valueAt (q :: qs) k = valueAt qs k := by simp [valueAt, List.find?_cons, e']
      rw [valV_neg e, b]; exact ih
theorem KV.any {kvs : List (κ × V)} {vs : List (κ × Value)} (r : KV kvs vs) (k : κ) : (kvs.any fun kv => decide (kv.1 = k)) = vs.any fun kv => decide (kv.1 = k) := by
  unfold KV at r
  induction r with
  | nil => rfl
  | cons h t ih => rw [List.any_cons, List.any_cons, ih, h.1]
theorem KV.repl {kvs : List (κ × V)} {vs : List (κ × Value)} (r : KV kvs vs) (k : κ) {y : V} {u : Value} (ry : RelV y u) :
    KV (kvs.map fun kv => if kv.1 = k then (kv.1, y) else kv) (vs.map fun kv => if kv.1 = k then (kv.1, u) else kv) := by
  unfold KV at r ⊢
  induction r with
  | nil => exact .nil
  | @cons p q ps qs h t ih =>
    rw [List.map_cons, List.map_cons]
    refine .cons ?_ ih
    obtain ⟨h1, h2⟩ := h
    by_cases e : p.1 = k
    · rw [if_pos e, if_pos (h1.symm.trans e)]; exact ⟨h1, ry⟩
    · rw [if_neg e, if_neg (fun z => e (h1.trans z))]; exact ⟨h1, h2⟩
theorem KV.put {kvs : List (κ × V)} {vs : List (κ × Value)} (r : KV kvs vs) (k : κ) {y : V} {u : Value} (ry : RelV y u) : KV (putK kvs k y) (stored vs k u) := by
  unfold putK stored
  rw [r.any k]
  by_cases e : (vs.any fun kv => decide (kv.1 = k)) = true
  · rw [if_pos e, if_pos e]; exact r.repl k ry
  · rw [if_neg e, if_neg e]; exact Paired.snoc r ⟨rfl, ry⟩
theorem KV.drop {kvs : List (κ × V)} {vs : List (κ × Value)} (r : KV kvs vs) (k : κ) : KV (dropK kvs k) (without vs k) := by
  unfold KV at r ⊢
  unfold dropK without
  induction r with
  | nil => exact .nil
  | @cons p q ps qs h t ih =>
    obtain ⟨h1, h2⟩ := h
    rw [List.filter_cons, List.filter_cons]
    by_cases e : p.1 = k
    · have a : ¬ decide (p.1 ≠ k) = true := by simp [e]
      have b : ¬ decide (q.1 ≠ k) = true := by simp [h1.symm.trans e]
      rw [if_neg a, if_neg b]; exact ih
    · have e' : ¬ q.1 = k := fun z => e (h1.trans z)
      have a : decide (p.1 ≠ k) = true := by simp [e]
      have b : decide (q.1 ≠ k) = true := by simp [e']
      rw [if_pos a, if_pos b]; exact .cons ⟨h1, h2⟩ ih
theorem KV.keys {kvs : List (κ × V)} {vs : List (κ × Value)} (r : KV kvs vs) : kvs.map (·.1) = vs.map (·.1) := by
  unfold KV at r
  induction r with
  | nil => rfl
  | cons h t ih => rw [List.map_cons, List.map_cons, ih, h.1]
theorem KV.length {kvs : List (κ × V)} {vs : List (κ × Value)} (r : KV kvs vs) : kvs.length = vs.length := Paired.length r
end


/-! ### a tracked dict, its keys ints and texts or tuples of these -/
theorem kV_is {P : Program} {w : World} {k : Key} {u : Value} (r : RelV (kV k) u) : (mixKind P w).is k u = true := by
  cases k with
  | inl i => obtain ⟨t, e⟩ := (show ∃ t, u = Value.int i t from r); subst e; exact mixKind_int P w i t
  | inr x => obtain ⟨t, e⟩ := (show ∃ t, u = Value.str x t from r); subst e; exact mixKind_str P w x t
theorem items_are {P : Program} {w : World} : ∀ {ks : List Key} {us : List Value}, Vals (ks.map kV) us → ItemsAre (mixKind P w) ks us
  | [], _, r => by rw [List.map_nil] at r; cases r; exact .nil
  | k :: ks, _, r => by
    rw [List.map_cons] at r
    cases r with
    | cons h t => exact .cons (kV_is h) (items_are t)

/-- raw entries of a dict with tuple keys -/
abbrev KT (H : Hp) : List (List Key × V) → List (List Key × Addr × Value) → Prop := Paired fun p q => p.1 = q.1 ∧ H q.2.1 = some (.tup (p.1.map kV)) ∧ RelV p.2 q.2.2
theorem KT.val {H : Hp} {kvs : List (List Key × V)} {xs : List (List Key × Addr × Value)} (r : KT H kvs xs) (k : List Key) : RelO (valV kvs k) ((atKey xs k).map (·.2)) := by
  induction r with
  | nil => exact True.intro
  | @cons p q ps qs h t ih =>
    obtain ⟨h1, _, h2⟩ := h
    by_cases e : p.1 = k
    · have e' : q.1 = k := h1.symm.trans e
      have b : atKey (q :: qs) k = some q.2 := by simp [atKey, List.find?_cons, e']
      rw [valV_pos e, b]; exact h2
    · have e' : ¬ q.1 = k := fun z => e (h1.trans z)
      have b : atKey (q :: qs) k = atKey qs k := by simp [atKey, List.find?_cons, e']
      rw [valV_neg e, b]; exact ih
theorem KT.repl {H : Hp} {kvs : List (List Key × V)} {xs : List (List Key × Addr × Value)} (r : KT H kvs xs) (k : List Key) {y : V} {u : Value} (ry : RelV y u) :
    KT H (kvs.map fun kv => if kv.1 = k then (kv.1, y) else kv) (xs.map (putAt k u)) := by
  induction r with
  | nil => exact .nil
  | @cons p q ps qs h t ih =>
    rw [List.map_cons, List.map_cons]
    refine .cons ?_ ih
    obtain ⟨h1, h2, h3⟩ := h
    unfold putAt
    by_cases e : p.1 = k
    · rw [if_pos e, if_pos (h1.symm.trans e)]; exact ⟨h1, h2, ry⟩
    · rw [if_neg e, if_neg (fun z => e (h1.trans z))]; exact ⟨h1, h2, h3⟩
theorem KT.put {H : Hp} {kvs : List (List Key × V)} {xs : List (List Key × Addr × Value)} (r : KT H kvs xs) (k : List Key) {b : Addr} {y : V} {u : Value} (hb : H b = some (.tup (k.map kV))) (ry : RelV y u) :
    KT H (putK kvs k y) (storedH xs k b u) := by
  have e : (kvs.any fun kv => decide (kv.1 = k)) = (atKey xs k).isSome := by
    rw [valV_any, (r.val k).isSome_eq, Option.isSome_map]
  unfold putK storedH
  rw [e]
  by_cases q : (atKey xs k).isSome = true
  · rw [if_pos q, if_pos q]; exact r.repl k ry
  · rw [if_neg q, if_neg q]; exact Paired.snoc r ⟨rfl, hb, ry⟩
theorem KT.keeps {H H' : Hp} {kvs : List (List Key × V)} {xs : List (List Key × Addr × Value)} (r : KT H kvs xs) (ht : ∀ b ys, H b = some (.tup ys) → H' b = some (.tup ys)) : KT H' kvs xs :=
  Paired.mapP r fun _ _ z => ⟨z.1, ht _ _ z.2.1, z.2.2⟩

section
variable {P : Program} {w : World} {H : Hp} {h : Heap} {a : Addr}
theorem rd_of {u : HO} (ok : HOk P w H h) (e : Rd H a u) : ObjOk P w H h a u := e.ok ok
theorem dk_rd {kvs : List (Key × V)} (ok : HOk P w H h) (e : Rd H a (.dK kvs)) : kvs.length ≤ sizeLine ∧ (a == sysModules) = false ∧ ∃ vs, KV kvs vs ∧ h.DictOf (mixKind P w) a vs :=
  show ObjOk P w H h a (.dK kvs) from rd_of ok e
theorem dk_of {kvs : List (Key × V)} (ok : HOk P w H h) (e : H a = some (.dK kvs)) : kvs.length ≤ sizeLine ∧ (a == sysModules) = false ∧ ∃ vs, KV kvs vs ∧ h.DictOf (mixKind P w) a vs := dk_rd ok (.inl e)
/-- a tracked tuple of ints and texts is a key -/
theorem key_of {ks : List Key} (ok : HOk P w H h) (e : H a = some (.tup (ks.map kV))) : (tupleKind (mixKind P w)).is h ks a := by
  obtain ⟨_, its, r, o, h1, h2, n, h3⟩ := (show ObjOk P w H h a (.tup (ks.map kV)) from ok a _ e)
  exact ⟨o, its.toArray, n, h1, h2, h3, by simpa using items_are r⟩
theorem dt_rd {kvs : List (List Key × V)} (ok : HOk P w H h) (e : Rd H a (.dT kvs)) : kvs.length ≤ sizeLine ∧ (a == sysModules) = false ∧
    ∃ xs, KT H kvs xs ∧ h.DictOfH (tupleKind (mixKind P w)) a xs := by
  obtain ⟨z, y, xs, r, o, es, ep, h1, h2, h3, h4, h5⟩ := (show ObjOk P w H h a (.dT kvs) from rd_of ok e)
  refine ⟨z, y, xs, r, o, es, ep, h1, h2, h3, h4, fun x hx => ?_, h5⟩
  have all : ∀ {l : List (List Key × V)} {m : List (List Key × Addr × Value)}, KT H l m → ∀ x ∈ m, (tupleKind (mixKind P w)).is h x.1 x.2.1 := by
    intro l m q
    induction q with
    | nil => intro x hx; exact nomatch hx
    | @cons p q ps qs hq t ih =>
      intro x hx
      rcases List.mem_cons.mp hx with e | hx
      · subst e
        exact key_of ok (by rw [← hq.1]; exact hq.2.1)
      · exact ih x hx
  exact all r x hx
theorem dt_of {kvs : List (List Key × V)} (ok : HOk P w H h) (e : H a = some (.dT kvs)) : kvs.length ≤ sizeLine ∧ (a == sysModules) = false ∧
    ∃ xs, KT H kvs xs ∧ h.DictOfH (tupleKind (mixKind P w)) a xs := dt_rd ok (.inl e)
end

/-- what the dict at a holds at the key y -/
def DGet (H : Hp) (a : Addr) (y : V) (r : Option V) : Prop :=
  (∃ kvs k, Rd H a (.dK kvs) ∧ y = kV k ∧ r = valV kvs k) ∨ ∃ kvs k b, Rd H a (.dT kvs) ∧ y = .ref b ∧ H b = some (.tup (k.map kV)) ∧ r = valV kvs k
/-- the heap behind a[y] = v -/
def DPut (H : Hp) (a : Addr) (y v : V) (H' : Hp) : Prop :=
  (∃ kvs k, H a = some (.dK kvs) ∧ y = kV k ∧ kvs.length < sizeLine ∧ H' = upd H a (.dK (putK kvs k v))) ∨
  ∃ kvs k b, H a = some (.dT kvs) ∧ y = .ref b ∧ H b = some (.tup (k.map kV)) ∧ kvs.length < sizeLine ∧ H' = upd H a (.dT (putK kvs k v))
theorem DGet.k {H : Hp} {a : Addr} {kvs : List (Key × V)} {k : Key} (e : H a = some (.dK kvs)) : DGet H a (kV k) (valV kvs k) := .inl ⟨kvs, k, .inl e, rfl, rfl⟩
theorem DGet.t {H : Hp} {a b : Addr} {kvs : List (List Key × V)} {k : List Key} (e : H a = some (.dT kvs)) (eb : H b = some (.tup (k.map kV))) : DGet H a (.ref b) (valV kvs k) := .inr ⟨kvs, k, b, .inl e, rfl, eb, rfl⟩
theorem DPut.k {H : Hp} {a : Addr} {kvs : List (Key × V)} {k : Key} {v : V} (e : H a = some (.dK kvs)) (hl : kvs.length < sizeLine) : DPut H a (kV k) v (upd H a (.dK (putK kvs k v))) := .inl ⟨kvs, k, e, rfl, hl, rfl⟩
theorem DPut.t {H : Hp} {a b : Addr} {kvs : List (List Key × V)} {k : List Key} {v : V} (e : H a = some (.dT kvs)) (eb : H b = some (.tup (k.map kV))) (hl : kvs.length < sizeLine) :
    DPut H a (.ref b) v (upd H a (.dT (putK kvs k v))) := .inr ⟨kvs, k, b, e, rfl, eb, hl, rfl⟩


section
variable {X : Cx} {pins : List (Addr × Obj)} {σ : St} {H : Hp} {s : Shared} {a : Addr} {y v : V} {u r : Value} {o : Option V} {A : Around} {E : Value → Shared → Prop}

theorem Inv.big (I : Inv X pins σ H s) : sysModules < s.heap.objs.size := by
  have h : mainGlobals < s.heap.objs.size := (I.mod.glob.keeps I.bk).lt
  exact Nat.lt_trans (by decide) h

/-- d[y], there -/
theorem d_getItem {Q : Value → Shared → Prop} (hu : A.units + 1 < cLine) (I : Inv X pins σ H s) (g : DGet H a y (some v)) (ry : RelV y u) (h : ∀ w' s', Inv X pins σ H s' → RelV v w' → Q w' s') :
    wpAny (model X.prog X.w) A (getItem (.ref a) u) Q E s := by
  rcases g with ⟨kvs, k, e, ey, l⟩ | ⟨kvs, k, b, e, ey, eb, l⟩
  · subst ey
    obtain ⟨z, hd, vs, rel, dd⟩ := dk_rd I.hok e
    obtain ⟨w', hw, rw'⟩ := RelO.some_of (v := v) (o := valueAt vs k) (by rw [l]; exact rel.val k)
    exact wpAny_getItem_of (kV_is ry) dd.mapOf hw (h w' _ (I.tok _) rw')
  · subst ey
    cases (show u = Value.ref b from ry)
    obtain ⟨z, hd, xs, rel, dd⟩ := dt_rd I.hok e
    obtain ⟨w', hw, rw'⟩ := RelO.some_of (v := v) (o := (atKey xs k).map (·.2)) (by rw [l]; exact rel.val k)
    obtain ⟨p, hp, hp2⟩ := Option.map_eq_some_iff.mp hw
    refine wpAny_getItem_heap (tupleKind_room_in1 hu) (key_of I.hok eb) dd hp ?_
    rw [hp2]
    exact h w' _ (I.tok _) rw'
/-- y in d -/
theorem d_in {Q : Value → Shared → Prop} (hu : A.units + 1 < cLine) (I : Inv X pins σ H s) (g : DGet H a y o) (ry : RelV y u) (h : ∀ s', Inv X pins σ H s' → Q (.bool o.isSome) s') :
    wpAny (model X.prog X.w) A (compareOp .In u (.ref a)) Q E s := by
  rcases g with ⟨kvs, k, e, ey, l⟩ | ⟨kvs, k, b, e, ey, eb, l⟩
  · subst ey
    obtain ⟨z, hd, vs, rel, dd⟩ := dk_rd I.hok e
    refine wpAny_in_of (kV_is ry) hd dd.mapOf ?_
    rw [← (rel.val k).isSome_eq, ← l]
    exact h _ (I.tok _)
  · subst ey
    cases (show u = Value.ref b from ry)
    obtain ⟨z, hd, xs, rel, dd⟩ := dt_rd I.hok e
    refine wpAny_in_heap (tupleKind_room_in1 hu) (key_of I.hok eb) hd dd ?_
    have q := (rel.val k).isSome_eq
    rw [Option.isSome_map] at q
    rw [← q, ← l]
    exact h _ (I.tok _)
/-- a dict's object is replaced -/
theorem d_write {h' : Heap} {t' : Nat} {ob : HO} (I : Inv X pins σ H s) (mu : Mut (H a)) (hs : Heap.SameBut a s.heap h') (he : ∃ q, h'.get? a = some q) (new : ObjOk X.prog X.w (upd H a ob) h' a ob) :
    Inv X pins σ (upd H a ob) { s with heap := h', toks := t' } :=
  I.write (x := a) (e := a) mu (.inl rfl) (fun b q hb z => (hs.2 b hb).trans z) he new
theorem dk_new {P : Program} {w : World} {H' : Hp} {h' : Heap} {kvs : List (Key × V)} {vs : List (Key × Value)} (z : kvs.length ≤ sizeLine) (hd : (a == sysModules) = false) (rel : KV kvs vs) (dd : h'.DictOf (mixKind P w) a vs) :
    ObjOk P w H' h' a (.dK kvs) := ⟨z, hd, vs, rel, dd⟩
/-- d[y] = v -/
theorem d_setItem {H' : Hp} {Q : Unit → Shared → Prop} (hu : A.units + 1 < cLine) (I : Inv X pins σ H s) (g : DPut H a y v H') (ry : RelV y u) (rv : RelV v r) (h : ∀ s', Inv X pins σ H' s' → Q () s') :
    wpAny (model X.prog X.w) A (setItem (.ref a) u r) Q E s := by
  rcases g with ⟨kvs, k, e, ey, l, eH⟩ | ⟨kvs, k, b, e, ey, eb, l, eH⟩
  · subst ey eH
    obtain ⟨z, hd, vs, rel, dd⟩ := dk_of I.hok e
    have hz : vs.length ≤ sizeLine := by rw [← rel.length]; exact z
    have hl : (putK kvs k v).length ≤ sizeLine := by have := length_putK kvs k v; omega
    refine wpAny_setItem_pairs (hsz := hz) (kV_is ry) dd fun h' dd' hs => h _ ?_
    have he : ∃ q, h'.get? a = some q := let ⟨q, _, _, hq, _⟩ := dd'; ⟨q, hq⟩
    exact d_write I (by rw [e]; exact True.intro) hs he (dk_new hl hd (rel.put k rv) dd')
  · subst ey eH
    cases (show u = Value.ref b from ry)
    obtain ⟨z, hd, xs, rel, dd⟩ := dt_of I.hok e
    have hz : xs.length ≤ sizeLine := by rw [← Paired.length rel]; exact z
    have hl : (putK kvs k v).length ≤ sizeLine := by have := length_putK kvs k v; omega
    refine wpAny_setItem_heap (hsz := hz) (tupleKind_room_in1 hu) (key_of I.hok eb) dd fun h' dd' hs => h _ ?_
    obtain ⟨q, es, ep, hq, h2, h3, h4, _, h5⟩ := dd'
    refine d_write I (by rw [e]; exact True.intro) hs ⟨q, hq⟩ ⟨hl, hd, _, (rel.put k eb rv).keeps fun c ys ec => ?_, q, es, ep, hq, h2, h3, h4, h5⟩
    rw [upd_ne (ne_of ec e (fun z => nomatch z))]
    exact ec
end

section
variable {X : Cx} {pins : List (Addr × Obj)} {σ : St} {H : Hp} {s : Shared} {a : Addr} {kvs : List (Key × V)} {k : Key} {u : Value} {A : Around} {E : Value → Shared → Prop}
/-- d.clear() -/
theorem d_clear {Q : Value → Shared → Prop} (I : Inv X pins σ H s) (e : H a = some (.dK kvs)) (h : ∀ s', Inv X pins σ (upd H a (.dK [])) s' → Q .none s') : wpAny (model X.prog X.w) A (call (.builtin "dict.clear") [.ref a]) Q E s := by
  obtain ⟨z, hd, vs, rel, dd⟩ := dk_of I.hok e
  refine call_meetsIn PySem.F.slot_dict_clear dd.typeIs PySem.F.entry_dict_clear (PySem.F.args_dict_clear_1 _) (meets_dict_clear (mixKind X.prog X.w) a) ⟨vs, dd, by rw [← rel.length]; exact z, fun h' dd' hs => h _ ?_⟩
  have he : ∃ q, h'.get? a = some q := let ⟨q, _, _, hq, _⟩ := dd'; ⟨q, hq⟩
  exact d_write (t' := s.toks) I (by rw [e]; exact True.intro) hs he (dk_new (Nat.zero_le _) hd .nil dd')
end


/-! ### readings and rules -/
/-- the element of a subscription, not a slice -/
def NoSl (i : Expr) : Prop := ∀ ov iv, subscripted i false ov iv = operate [ov, iv] (getItem ov iv)
theorem subD_of {prog : Program} {w : World} {A : Around} {E : Value → Shared → Prop} {s : Shared} {env : Env} {value slice : Expr} {pos : Pos} {T id : String} {Q : Value → Shared → Prop}
    (hl : typeLookup (.type T) "__getitem__" = pure (some (.builtin id))) (hs : NoSl slice)
    (h : wpAny (model prog w) A (eval value env) (fun o s₁ => wpAny (model prog w) A (eval slice env) (fun i s₂ => s₂.TypeIs o T ∧ wpAny (model prog w) A (getItem o i) Q E s₂) E s₁) E s) :
    wpAny (model prog w) A (eval (.Subscript value slice pos) env) Q E s := by
  refine Subscript_ (wpAny_mono h (fun o s₁ h₁ => wpAny_mono h₁ (fun i s₂ h₂ => ?_) fun _ _ x => x) fun _ _ x => x)
  obtain ⟨hT, h₂⟩ := h₂
  unfold subscriptTail
  refine wpAny_bind ?_
  rw [getitemInPython_of_ne hT.not_modules]
  refine wpAny_bind (wpAny_specialOf hT hl ?_)
  have fin : wpAny (model prog w) A (subscripted slice false o i) (fun r s₃ => wpAny (model prog w) A (letTemporaryGo value o r >>= fun _ => pure r) Q E s₃) E s₂ := by
    rw [hs o i]
    exact wpAny_operating (wpAny_mono h₂ (fun r s₃ h₃ => wpAny_bind (wpAny_letTemporaryGo (wpAny_pure h₃))) fun _ _ x => x)
  first
    | exact wpAny_pure (wpAny_bind fin)
    | exact wpAny_bind (wpAny_pure (wpAny_bind fin))
    | exact wpAny_bind fin

theorem dict_typeIs {X : Cx} {pins : List (Addr × Obj)} {σ : St} {H : Hp} {s : Shared} {a : Addr} {y : V} {o : Option V} (I : Inv X pins σ H s) (g : DGet H a y o) : s.TypeIs (.ref a) "dict" := by
  rcases g with ⟨kvs, k, e, _, _⟩ | ⟨kvs, k, b, e, _, _, _⟩
  · obtain ⟨_, _, vs, _, dd⟩ := dk_rd I.hok e
    exact dd.typeIs
  · obtain ⟨_, _, xs, _, dd⟩ := dt_rd I.hok e
    exact dd.typeIs

/-- d[y] -/
def tDGet (td ty : TE) : TE := fun σ H Q => td σ H fun x H1 => ty σ H1 fun y H2 => ∃ a v, x = .ref a ∧ DGet H2 a y (some v) ∧ Q v H2
/-- y in d, y not in d -/
def tDIn (ty td : TE) : TE := fun σ H Q => ty σ H fun y H1 => td σ H1 fun x H2 => ∃ a o, x = .ref a ∧ DGet H2 a y o ∧ Q (.bl o.isSome) H2
def tDNotIn (ty td : TE) : TE := fun σ H Q => ty σ H fun y H1 => td σ H1 fun x H2 => ∃ a o, x = .ref a ∧ DGet H2 a y o ∧ Q (.bl (!o.isSome)) H2
/-- d[y] = v -/
def sDPut (td ty tv : TE) : TS := fun D σ H => tv σ H fun v H1 => td σ H1 fun x H2 => ty σ H2 fun y H3 => ∃ a H4, x = .ref a ∧ DPut H3 a y v H4 ∧ D.nx σ H4
/-- d[y] op= v -/
def sDAug (td ty tv : TE) (rd : V → V → Hp → VK → Prop) : TS := fun D σ H => td σ H fun x H1 => ty σ H1 fun y H2 => ∃ a v, x = .ref a ∧ DGet H2 a y (some v) ∧
  tv σ H2 fun y2 H3 => rd v y2 H3 fun z H4 => ∃ H5, DPut H4 a y z H5 ∧ D.nx σ H5
/-- del d[y] -/
def sDDel (td ty : TE) : TS := fun D σ H => td σ H fun x H1 => ty σ H1 fun y H2 => ∃ a kvs k, x = .ref a ∧ H2 a = some (.dK kvs) ∧ y = kV k ∧ (valV kvs k).isSome = true ∧ D.nx σ (upd H2 a (.dK (dropK kvs k)))

section
variable {X : Cx} {o i e value : Expr} {pos pos' tpos : Pos} {td ty tv : TE}
theorem pe_dget (hu : X.A.units + 1 < cLine) (ho : PE X o td) (hi : PE X i ty) (hs : NoSl i) : PE X (.Subscript o i pos) (tDGet td ty) := by
  intro pins s σ H Q I h
  refine subD_of PySem.F.slot_dict_getitem.lookup hs (thn (ho pins s σ H _ I h) fun u s1 ⟨x, H1, I1, rx, q1⟩ => thn (hi pins s1 σ H1 _ I1 q1) fun iv s2 ⟨y, H2, I2, ry, a, v, ex, g, q2⟩ => ?_)
  subst ex
  obtain rfl : u = Value.ref a := rx
  exact ⟨dict_typeIs I2 g, d_getItem hu I2 g ry fun w' s3 I3 rw' => ⟨v, H2, I3, rw', q2⟩⟩
theorem pc_din (hu : X.A.units + 1 < cLine) (hi : PE X i ty) (ho : PE X o td) : PC X .In i o (tDIn ty td) := by
  intro pins s σ H Q I h
  refine thn (hi pins s σ H _ I h) fun iv s1 ⟨y, H1, I1, ry, q1⟩ => thn (ho pins s1 σ H1 _ I1 q1) fun u s2 ⟨x, H2, I2, rx, a, ov, ex, g, q2⟩ => ?_
  subst ex
  obtain rfl : u = Value.ref a := rx
  exact d_in hu I2 g ry fun s3 I3 => ⟨.bl ov.isSome, H2, I3, rfl, q2⟩
theorem ps_dput (hu : X.A.units + 1 < cLine) (ho : PE X o td) (hi : PE X i ty) (hv : PE X value tv) (hs : swapsWith value (some (.Subscript o i pos')) pos.line X.env = pure false) :
    PS X (.Assign [.Subscript o i pos'] value pos) (sDPut td ty tv) := by
  intro pins s σ H D I h
  refine wpAny_Assign_Subscript (thn (hv pins s σ H _ I h) fun r s1 ⟨v, H1, I1, rv, q1⟩ => thn (ho pins s1 σ H1 _ I1 q1) fun u s2 ⟨x, H2, I2, rx, q2⟩ => thn (hi pins s2 σ H2 _ I2 q2) fun iv s3 ⟨y, H3, I3, ry, a, H4, ex, g, q3⟩ => ?_) hs
  subst ex
  obtain rfl : u = Value.ref a := rx
  exact d_setItem hu I3 g ry rv fun s4 I4 => ⟨σ, H4, I4, q3⟩
end


/-! ### displays -/
theorem dk_empty {P : Program} {w : World} {H : Hp} (h : Heap) (hb : sysModules < h.objs.size) : ObjOk P w H (h.push { cls := .type "dict", data := .dict #[] }) h.objs.size (.dK []) :=
  ⟨Nat.zero_le _, beq_eq_false_iff_ne.mpr (Ne.symm (Nat.ne_of_lt hb)), [], .nil, Heap.DictOf.new h⟩
/-- {}, to be a dict of the kind that is wanted -/
def tDNewK : TE := fun _ H Q => ∀ p, H p = none → Q (.ref p) (upd H p (.dK []))
def tDNewT : TE := fun _ H Q => ∀ p, H p = none → Q (.ref p) (upd H p (.dT []))
section
variable {X : Cx} {pos : Pos}
theorem pe_dnewK : PE X (.Dict [] [] pos) tDNewK := fun pins s σ H Q I h =>
  wpAny_Dict_empty ⟨.ref s.heap.objs.size, _, I.laid (a := s.heap.objs.size) (o := .dK []) (t' := s.toks) (fun _ _ q => Heap.get?_push_of_some _ q) (Nat.le_refl _) (dk_empty s.heap I.big), rfl, h _ (I.hok.fresh (Nat.le_refl _))⟩
end

/-- the pairs of a display, from the left -/
def tPairs : List (TE × TE) → St → Hp → (List (V × V) → Hp → Prop) → Prop
  | [], _, H, Q => Q [] H
  | (tk, tv) :: r, σ, H, Q => tk σ H fun x H1 => tv σ H1 fun y H2 => tPairs r σ H2 fun ps H3 => Q ((x, y) :: ps) H3
abbrev VV : List (V × V) → List (Value × Value) → Prop := Paired fun p q => RelV p.1 q.1 ∧ RelV p.2 q.2
def PPs (X : Cx) (pos : Pos) (keys : List (Option Expr)) (values : List Expr) (trs : List (TE × TE)) : Prop :=
  ∀ (pins : List (Addr × Obj)) (s : Shared) (σ : St) (H : Hp) (Q : List (V × V) → Hp → Prop), Inv X pins σ H s → tPairs trs σ H Q →
    wpAny (model X.prog X.w) X.A (evalPairs (pairTrees keys values X.env pos)) (fun vs s' => ∃ ps H', Inv X pins σ H' s' ∧ VV ps vs ∧ Q ps H') X.xe s

def mergeK (kvs more : List (Key × V)) : List (Key × V) := more.foldl (fun acc kv => putK acc kv.1 kv.2) kvs
/-- {k: v, ..} with keys ints and texts; the new dict stands empty while the pairs are made -/
def tDisp (trs : List (TE × TE)) : TE := fun σ H Q => ∀ p, H p = none → tPairs trs σ (upd H p (.dK [])) fun ps H2 => H2 p = some (.dK []) ∧ ∃ kvs : List (Key × V), ps = kvs.map (fun kv => (kV kv.1, kv.2)) ∧ kvs.length ≤ 15 ∧ Q (.ref p) (upd H2 p (.dK (mergeK [] kvs)))


/-! ### methods -/
/-- a method call o.m(e) of a built-in, with one argument: what must be seen of the text -/
structure M1 (X : Cx) (o : Expr) (m : Str) (apos : Pos) (e : Expr) (cpos : Pos) : Prop where
  base : attributeBase o m X.env (eval o X.env) = eval o X.env
  few : ((backTo cpos (starEach [e] X.env)).all (fun x => !x.1) && (backToKw cpos (keywordEach [] X.env)).all (fun x => x.1.isSome)
    && decide (([e] : List Expr).length + ([] : List Keyword).length + (if ([] : List Keyword).isEmpty then 0 else 1) < 30)) = true
  line : (apos.endLine == cpos.line) = true
  trees : backTo cpos (starEach [e] X.env) = [(false, eval e X.env)]
structure M2 (X : Cx) (o : Expr) (m : Str) (apos : Pos) (e f : Expr) (cpos : Pos) : Prop where
  base : attributeBase o m X.env (eval o X.env) = eval o X.env
  few : ((backTo cpos (starEach [e, f] X.env)).all (fun x => !x.1) && (backToKw cpos (keywordEach [] X.env)).all (fun x => x.1.isSome)
    && decide (([e, f] : List Expr).length + ([] : List Keyword).length + (if ([] : List Keyword).isEmpty then 0 else 1) < 30)) = true
  line : (apos.endLine == cpos.line) = true
  trees : backTo cpos (starEach [e, f] X.env) = [(false, eval e X.env), (false, eval f X.env)]

/-- a is a dict, whatever its keys -/
def IsD (H : Hp) (a : Addr) : Prop := (∃ kvs, Rd H a (.dK kvs)) ∨ ∃ kvs, Rd H a (.dT kvs)
theorem isD_at {X : Cx} {pins : List (Addr × Obj)} {σ : St} {H : Hp} {s : Shared} {a : Addr} (I : Inv X pins σ H s) (d : IsD H a) :
    s.TypeIs (.ref a) "dict" ∧ (∀ b, Value.ref a = .ref b → ∃ ob, s.heap.get? b = some ob ∧ ob.dict = none) ∧ (a == sysModules) = false := by
  rcases d with ⟨kvs, e⟩ | ⟨kvs, e⟩
  · obtain ⟨_, hd, vs, _, dd⟩ := dk_rd I.hok e
    refine ⟨dd.typeIs, fun b q => ?_, hd⟩
    cases q
    obtain ⟨ob, _, _, h1, h2, _⟩ := dd
    exact ⟨ob, h1, h2.2.1⟩
  · obtain ⟨_, hd, xs, _, dd⟩ := dt_rd I.hok e
    refine ⟨dd.typeIs, fun b q => ?_, hd⟩
    cases q
    obtain ⟨ob, _, _, h1, h2, _⟩ := dd
    exact ⟨ob, h1, h2.2.1⟩

section
variable {X : Cx} {pins : List (Addr × Obj)} {σ : St} {H : Hp} {s : Shared} {a : Addr} {y d : V} {u r : Value} {o : Option V} {A : Around} {E : Value → Shared → Prop}
/-- d.get(y, x) -/
theorem d_get2 {Q : Value → Shared → Prop} (hu : A.units + 1 < cLine) (I : Inv X pins σ H s) (g : DGet H a y o) (ry : RelV y u) (rd : RelV d r) (h : ∀ w' s', Inv X pins σ H s' → RelV (o.getD d) w' → Q w' s') :
    wpAny (model X.prog X.w) A (call (.builtin "dict.get") [.ref a, u, r]) Q E s := by
  rcases g with ⟨kvs, k, e, ey, l⟩ | ⟨kvs, k, b, e, ey, eb, l⟩
  · subst ey
    obtain ⟨z, hd, vs, rel, dd⟩ := dk_rd I.hok e
    refine call_meetsIn PySem.F.slot_dict_get dd.typeIs PySem.F.entry_dict_get (PySem.F.args_dict_get_3 _ _ _) (meets_dict_get_default (mixKind X.prog X.w) a (kV_is ry) hd r) ⟨_, dd.mapOf, h _ _ (I.tok _) ?_⟩
    rw [l]
    exact (rel.val k).getD rd
  · subst ey
    cases (show u = Value.ref b from ry)
    obtain ⟨z, hd, xs, rel, dd⟩ := dt_rd I.hok e
    refine call_meetsIn PySem.F.slot_dict_get dd.typeIs PySem.F.entry_dict_get (PySem.F.args_dict_get_3 _ _ _) (meetsH_dict_get_default (tupleKind (mixKind X.prog X.w)) a b hd r) ⟨tupleKind_room_in1 hu, k, xs, key_of I.hok eb, dd, h _ _ (I.tok _) ?_⟩
    rw [l]
    exact (rel.val k).getD rd
end

def tDGet1 (td ty : TE) : TE := fun σ H Q => td σ H fun x H1 => ∃ a, x = .ref a ∧ IsD H1 a ∧ ty σ H1 fun y H2 => ∃ o, DGet H2 a y o ∧ Q (o.getD .non) H2
def tDGet2 (td ty tx : TE) : TE := fun σ H Q => td σ H fun x H1 => ∃ a, x = .ref a ∧ IsD H1 a ∧ ty σ H1 fun y H2 => tx σ H2 fun z H3 => ∃ o, DGet H3 a y o ∧ Q (o.getD z) H3
/-- d.pop(k): there; d.pop(k, x): there or not -/
def tDPop1 (td ty : TE) : TE := fun σ H Q => td σ H fun x H1 => ∃ a, x = .ref a ∧ IsD H1 a ∧ ty σ H1 fun y H2 => ∃ kvs k v, H2 a = some (.dK kvs) ∧ y = kV k ∧ valV kvs k = some v ∧ Q v (upd H2 a (.dK (dropK kvs k)))
def tDPop2 (td ty tx : TE) : TE := fun σ H Q => td σ H fun x H1 => ∃ a, x = .ref a ∧ IsD H1 a ∧ ty σ H1 fun y H2 => tx σ H2 fun z H3 => ∃ kvs k, H3 a = some (.dK kvs) ∧ y = kV k ∧
  (∀ v, valV kvs k = some v → Q v (upd H3 a (.dK (dropK kvs k)))) ∧ (valV kvs k = none → Q z H3)
section
variable {X : Cx} {o e f : Expr} {apos cpos : Pos} {td ty tx : TE}
theorem pe_dget2 (hu : X.A.units + 1 < cLine) (ho : PE X o td) (he : PE X e ty) (hf : PE X f tx) (m : M2 X o "get" apos e f cpos) : PE X (.Call (.Attribute o "get" apos) [e, f] [] cpos) (tDGet2 td ty tx) := by
  intro pins s σ H Q I h
  refine wpAny_Call_method m.base m.few m.line PySem.F.plainAttrs_dict PySem.F.slot_dict_get PySem.F.type_dict_get (thn (ho pins s σ H _ I h) fun u s1 ⟨x, H1, I1, rx, a, ex, d, q1⟩ => ?_)
  subst ex
  obtain rfl : u = Value.ref a := rx
  obtain ⟨t1, t2, _⟩ := isD_at I1 d
  refine ⟨t1, t2, ?_⟩
  rw [m.trees]
  refine Calls.callWith_builtin rfl (Calls.evalArgs_plain (Calls.spliced_cons (thn (he pins s1 σ H1 _ I1 q1) fun iv s2 ⟨y, H2, I2, ry, q2⟩ =>
    Calls.spliced_cons (thn (hf pins s2 σ H2 _ I2 q2) fun fv s3 ⟨z, H3, I3, rz, ov, g, q3⟩ => Calls.spliced_nil ?_))))
  exact d_get2 hu I3 g ry rz fun w' s4 I4 rw' => ⟨_, H3, I4, rw', q3⟩
end

/-! ### dict(d): a copy -/
section
variable {X : Cx} {pins : List (Addr × Obj)} {σ : St} {H : Hp} {s : Shared} {a : Addr} {kvs : List (Key × V)} {A : Around} {E : Value → Shared → Prop}
end


section
variable {X : Cx} {pins : List (Addr × Obj)} {σ : St} {H : Hp} {s : Shared} {a : Addr} {y : V} {u : Value} {A : Around} {E : Value → Shared → Prop}
end
end L2

namespace Att
open PySem PySem.W PySem.Calls PyProof.Rows

/-! ### the script -/
theorem ints_of_wellAll {P : Params} {h : Heap} : ∀ (ns : List Int) (vs : List Value), WellAll P h vs (ns.map WData.int) → IntsAre vs ns := by
  intro ns
  induction ns with
  | nil =>
    intro vs w
    rw [List.map_nil] at w
    cases w
    exact .nil
  | cons n ns ih =>
    intro vs w
    rw [List.map_cons] at w
    cases w with
    | cons a b =>
      cases a
      exact .cons _ _ (ih _ b)

theorem script_of {l : OpenLaw} {n : Nat} (hn : l.most = some n) {P : Params} {h : Heap} {args : List WData} {vals : List Value}
    (hpre : l.row.toRowW.claim.pre args = true) (hwl : WellAll P h vals args) :
    ∃ a vs ns, vals = [Value.ref a] ∧ args = [WData.list (ns.map WData.int)] ∧ h.get? a = some { cls := .type "list", data := .seq vs.toArray } ∧ IntsAre vs ns ∧ ns.length ≤ n := by
  have hsh : WShape.hasAll [] args [.list .int] = true := (pre_splitW hpre).1
  have hc : l.pre.holds [] { args := args } = true := (pre_splitW hpre).2
  obtain ⟨d, r, rfl, h1, h2⟩ := hasAllW_cons hsh
  obtain rfl := hasAllW_nil h2
  obtain ⟨xs, rfl, h3⟩ := hasW_list h1
  obtain ⟨ns, rfl⟩ := items_int h3
  have hlen : ns.length ≤ n := by
    unfold OpenLaw.pre at hc
    have h4 : (WTm.not (.lt (.lit (.int (n : Int))) (.len (.arg 0)))).holds [] { args := [.list (ns.map .int)] } = true := by
      have h4 := (holds_andW hc).1
      rw [hn] at h4
      exact h4
    have h5 := condW_of h4 (w_not (w_lt w_lit (w_len_list (w_arg rfl))))
    rw [List.length_map] at h5
    refine Nat.le_of_not_lt fun q => ?_
    have q' : (n : Int) < ((ns.length : Nat) : Int) := by omega
    first
      | (rw [decide_eq_true q'] at h5; exact absurd h5 (by decide))
      | (simp at h5; omega)
  cases hwl with
  | cons w1 w2 =>
    cases w2
    cases w1 with
    | list ho hall => exact ⟨_, _, ns, rfl, rfl, ho, ints_of_wellAll ns _ hall, hlen⟩

theorem post_true (l : OpenLaw) (args : List WData) : l.row.toRowW.claim.post args (.bool true) args = true :=
  postW_of (r := l.row.toRowW) (X := (true == true))
    (show WShape.has [] (.bool true) .bool = true by first | rfl | decide | simp [WShape.has, WShape.arms, WShape.armsAll])
    (show (WTm.eq .res (.lit (.bool true))).value [] { args := args, res := some (.bool true), after := args } = some (.bool (true == true)) from w_eq_bool (w_res rfl) w_lit) rfl

/-! ### the attachment: holds_open's last premise (the goal 'hc' behind k_head) from a wpAny of the law's body -/

/-- the same from a codeAny of the CALL (for a layer whose function contracts speak of calls) -/
theorem attach_call {l : OpenLaw} {n : Nat} {q : Program} {loose : List Str} {XP : (Str → Option Value) → Heap → Prop} {YP : World → Heap → Prop} {d : DefRec}
    (hn : l.most = some n) (hdf : d.params.defaults = [])
    (call : ∀ (w : World) (s₀ s₁ : Shared) (mg mb : Str → Option Value) (fa : Addr) (o : Obj) (pm cd doc : Value) (a : Addr) (vs : List Value) (ns : List Int),
      Ground q loose [] XP w s₀ mg mb s₁.heap → YP w s₁.heap →
      s₁.heap.get? fa = some o → o.data = .func (docDef d.name d.params d.body d.scope pm cd doc) → s₁.heap.CodeRec cd d.name → mg d.name = some (.ref fa) →
      s₁.heap.get? a = some { cls := .type "list", data := .seq vs.toArray } → IntsAre vs ns → ns.length ≤ n → s₁.gens = #[] →
      codeAny (model l.prog w) callerA (.call (.ref fa) ⟨[.ref a], []⟩) (fun r s' => r = .ok (.ret (.bool true)) ∧ OldK s₁.heap s'.heap ∧ s'.os = s₁.os ∧ AllBare s'.gens) s₁) :
    WalkO q loose XP YP l.row.toRowW d [] (fun f vs => PySem.call f vs) := by
  intro w s₀ s₁ mg mb G Y fa o pm cd doc dV kV ho hd hcd hD hmg hg args vals as hpre hlay hrd hwl hlo
  obtain rfl : dV = .none := Dflts.none hD hdf
  obtain rfl : kV = .none := Dflts.noKw hD
  obtain ⟨a, vs, ns, rfl, rfl, hobj, hints, hlen⟩ := script_of hn hpre hwl
  refine enter_call (codeAny_mono (call w s₀ s₁ mg mb fa o pm cd doc a vs ns G Y ho (fd_plain hd) hcd hmg hobj hints hlen hg) fun r s' hq => ?_)
  obtain ⟨rfl, h2, h3, h4⟩ := hq
  exact ⟨.inl ⟨.bool true, .bool true, [], rfl, fun _ => rfl, .bool true, post_true l _, fun _ => ⟨List.Pairwise.nil, fun _ hm => (nomatch hm)⟩⟩, h2, h3, h4⟩


/-! ### rules over ANY heap (no ledger) from facts about the written part K: the library's own take a ledger (News) for what they write -/
section
variable {prog : Program} {w : World} {A : Around} {E : Value → Shared → Prop} {s : Shared} {K : Frag}





/-! the whole heap as the ledger: makes every rule that writes through a ledger a rule over any heap -/
def noObjs (h : Heap) : Heap := { h with objs := #[] }
def ledger (h : Heap) (L d : Addr) : List (Addr × Obj) := (List.range h.objs.size).filterMap fun a => if a = L ∨ a = d then none else (h.get? a).map fun o => (a, o)

end
end Att

namespace L2
open PySem PySem.Spec PyProof.Rows

theorem vals_ints : ∀ {vs : List Value} {ns : List Int}, IntsAre vs ns → Vals (ns.map V.int) vs
  | _, _, .nil => .nil
  | _, _, .cons n t h => .cons ⟨t, rfl⟩ (vals_ints h)

/-- nothing is tracked but the script, known to the object (or it is an object of the module) -/
def Only (H : Hp) : Prop := ∀ b, H b = none ∨ ∃ o xs, H b = some (.frz o (.lst xs))

/-- THE HEAD: the law's promise, at the heap behind the top. F, the promise of the law's def, may use that base is part of the heap (so K.In base, base.Ns mainGlobals mg stand in Mod) -/
theorem law_call {P : Program} {w : World} {K : PySem.W.Frag} {mg mb : Str → Option Value} {CX : CXT} {k : Nat} {fa a : Addr} {fd : FuncData} {x : Str} {sp : Sp} {s₁ : Shared} {vs : List Value} {ns : List Int}
    (KX : K.In s₁.heap) (hns : s₁.heap.Ns mainGlobals mg) (hb : s₁.heap.Ns builtinsNs mb) (hbb : ∀ x : Str, x ≠ "__name__" → mb x = bootBuiltins x) (hlim : s₁.heap.NoLimit) (hg : s₁.gens = #[])
    (ha : s₁.heap.get? a = some { cls := .type "list", data := .seq vs.toArray }) (hi : IntsAre vs ns) (hl : ns.length ≤ sizeLine) (hr : Room k callerA)
    (F : ∀ base : Heap, K.In base → base.Ns mainGlobals mg → FnOk P w K mg base CX k fa fd [x] sp) (hbind : ∀ (s : Shared) (u : Value), BindsTo s fd ⟨[u], []⟩ [(x, u)])
    (hsp : ∀ H : Hp, Only H → SqL K H a (ns.map V.int) → sp [.ref a] H (fun v _ => v = .bl true) fun _ _ _ => False)
    (hCX : ∀ H e s', CX [] H s₁ (fun _ _ _ => False) e s' → False) :
    codeAny (model P w) callerA (.call (.ref fa) ⟨[.ref a], []⟩) (fun r s' => r = .ok (.ret (.bool true)) ∧ OldK s₁.heap s'.heap ∧ s'.os = s₁.os ∧ AllBare s'.gens) s₁ := by
  have rv := vals_ints hi
  have lenV := hi.length
  -- from an abstract heap in which nothing but the script may be tracked
  have core : ∀ H : Hp, Only H → SqL K H a (ns.map V.int) → HOk P w H s₁.heap → (∀ b, H b ≠ none → b = a) → (H a ≠ none → K.lookup a = none) →
      codeAny (model P w) callerA (.call (.ref fa) ⟨[.ref a], []⟩) (fun r s' => r = .ok (.ret (.bool true)) ∧ OldK s₁.heap s'.heap ∧ s'.os = s₁.os ∧ AllBare s'.gens) s₁ := by
    intro H hO hS hok hA hK
    have base_of : ∀ {b : Addr} {o : Obj}, s₁.heap.get? b = some o → H b = none → (hidT s₁.heap H).get? b = some o := fun e n => hidT_get e n
    have noA : ∀ {b : Addr} {o : Obj} {es : Array DictEntry} {ep : Nat}, s₁.heap.get? b = some o → o.data = .dict es ep → H b = none := fun {b o es ep} e d => by
      cases q : H b with
      | none => rfl
      | some u =>
        have e' : b = a := hA b (by rw [q]; simp)
        subst e'
        rw [ha] at e; cases e
        have d' : Data.seq vs.toArray _ = Data.dict es ep := d
        cases d'
    have nsK : ∀ {b : Addr} {m : Str → Option Value}, s₁.heap.Ns b m → (hidT s₁.heap H).Ns b m := fun {b m} ⟨o, es, ep, e, d, r⟩ => ⟨o, es, ep, base_of e (noA e d), d, r⟩
    have hKb : K.In (hidT s₁.heap H) := fun b o e => base_of (KX b o e) (by
      cases q : H b with
      | none => rfl
      | some u =>
        have e' : b = a := hA b (by rw [q]; simp)
        subst e'
        rw [hK (by rw [q]; simp)] at e; cases e)
    have hM : Mod K mg (hidT s₁.heap H) := ⟨hKb, nsK hns, ⟨mb, nsK hb, hbb⟩, let ⟨mc, h1, h2⟩ := hlim; ⟨mc, nsK h1, h2⟩⟩
    have e0 : Env0 P w K mg (hidT s₁.heap H) callerA [] s₁ H := ⟨rfl, hM, fun b o e => of_hidT e, Nat.le_of_eq (hidT_size _ _), trivial, fun b hb => absurd (show b ∈ ([] : List Addr) from hb) (by simp), hok, .of_eq hg⟩
    refine codeAny_mono ((F _ hKb (nsK hns)).run callerA [] s₁ H ⟨[.ref a], []⟩ [.ref a] [.ref a] _ _ hr e0 (hbind s₁ (.ref a)) (.cons rfl .nil) (hsp H hO hS)) fun r s' h => ?_
    cases r with
    | error e => exact (hCX H e s' h).elim
    | ok fl =>
      cases fl with
      | next => exact False.elim h
      | brk => exact False.elim h
      | cont => exact False.elim h
      | ret u =>
        obtain ⟨v, H', os, bare, un, hok', r', q⟩ := h
        have q' : v = .bl true := q
        subst q'
        obtain rfl : u = Value.bool true := r'
        refine ⟨rfl, OldK.of_keep fun b o e => ?_, os, bare⟩
        cases q : H b with
        | none => exact un.keep b o e q (by intro z; exact absurd (show b ∈ ([] : List Addr) from z) (by simp)) (by simp)
        | some u =>
          rcases hO b with z | ⟨ob, xs, z⟩
          · rw [q] at z; cases z
          · have z2 := un.frzs b ob _ z
            obtain ⟨e1, _⟩ := hok b _ z
            obtain ⟨e2, _⟩ := hok' b _ z2
            rw [e] at e1; cases e1
            exact e2
  cases hk : K.lookup a with
  | some o =>
    -- the script is one of the module's own objects
    have e := KX a o hk
    rw [ha] at e
    cases e
    refine core (fun _ => none) (fun _ => .inl rfl) (.inr ⟨_, vs.toArray, _, hk, rfl, rfl, rfl, by rw [List.size_toArray, lenV]; exact hl, by simpa using rv⟩) (fun b u z => by have z' : (none : Option HO) = some u := z; cases z') (fun b z => absurd rfl z) fun z => absurd rfl z
  | none =>
    refine core (fun b => if b = a then some (.frz { cls := .type "list", data := .seq vs.toArray } (.lst (ns.map V.int))) else none) (fun b => ?_) (.inl (.inr ⟨{ cls := .type "list", data := .seq vs.toArray }, if_pos rfl⟩)) (fun b u z => ?_) (fun b z => ?_) fun _ => hk
    · by_cases hb : b = a
      · exact .inr ⟨_, _, if_pos hb⟩
      · exact .inl (if_neg hb)
    · by_cases hb : b = a
      · have z' := (if_pos hb).symm.trans z
        cases z'
        subst hb
        exact ⟨ha, by rw [List.length_map]; exact hl, vs, _, rv, ha⟩
      · have z' := (if_neg hb).symm.trans z
        cases z'
    · by_cases hb : b = a
      · exact hb
      · exact absurd (if_neg hb) z
end L2

namespace L2
open PySem PySem.Spec PyProof.Rows

abbrev KOf {K : PySem.W.Frag} {h : Heap} (_ : K.In h) : PySem.W.Frag := K

/-- the goal that k_head leaves (case hc), from the law's promise. F gives the function object fd (K's own) once, then the promise over every base -/
theorem walk_of {l : PySem.W.OpenLaw} {n k : Nat} {q : Program} {loose : List Str} {XP : (Str → Option Value) → Heap → Prop} {YP : World → Heap → Prop} {d : DefRec} {K : Params → PySem.W.Frag} {CX : World → CXT} {sp : World → Sp} {x : Str}
    (hn : l.most = some n) (hn2 : n ≤ sizeLine) (hdf : d.params.defaults = []) (hr : Room k callerA)
    (hY : ∀ (w : World) (h : Heap), YP w h → (K w.params).In h)
    (F : ∀ (w : World) (mg : Str → Option Value) (fa : Addr) (h : Heap), (K w.params).In h → h.Ns mainGlobals mg → mg d.name = some (.ref fa) →
      ∃ fd : FuncData, (∀ (s : Shared) (u : Value), BindsTo s fd ⟨[u], []⟩ [(x, u)]) ∧
        ∀ base : Heap, (K w.params).In base → base.Ns mainGlobals mg → FnOk l.prog w (K w.params) mg base (CX w) k fa fd [x] (sp w))
    (hsp : ∀ (w : World) (H : Hp) (a : Addr) (ns : List Int), ns.length ≤ n → Only H → SqL (K w.params) H a (ns.map V.int) → sp w [.ref a] H (fun v _ => v = .bl true) fun _ _ _ => False)
    (hCX : ∀ (w : World) (H : Hp) (s : Shared) (e : Value) (s' : Shared), CX w [] H s (fun _ _ _ => False) e s' → False) :
    PySem.W.WalkO q loose XP YP l.row.toRowW d [] (fun f vs => PySem.call f vs) := by
  refine Att.attach_call hn hdf fun w s₀ s₁ mg mb fa o pm cd doc a vs ns G Y ho hd hcd hmg hobj hints hlen hg => ?_
  have KX := hY w _ Y
  obtain ⟨fd, hb, hF⟩ := F w mg fa _ KX G.T.g hmg
  exact law_call KX G.T.g G.T.b G.T.builtins G.T.nolimit hg hobj hints (Nat.le_trans hlen hn2) hr hF hb (fun H hO hS => hsp w H a ns hlen hO hS) fun H e s' => hCX w H s₁ e s'
/-- the same where the promise hangs on the written part alone: (sp := My.sp_law), no hole under a binder -/
theorem walk_ofK {l : PySem.W.OpenLaw} {n k : Nat} {q : Program} {loose : List Str} {XP : (Str → Option Value) → Heap → Prop} {YP : World → Heap → Prop} {d : DefRec} {K : Params → PySem.W.Frag} {CX : CXT} {sp : PySem.W.Frag → Sp} {x : Str}
    (hn : l.most = some n) (hn2 : n ≤ sizeLine) (hdf : d.params.defaults = []) (hr : Room k callerA)
    (hY : ∀ (w : World) (h : Heap), YP w h → (K w.params).In h)
    (F : ∀ (w : World) (mg : Str → Option Value) (fa : Addr) (h : Heap), (K w.params).In h → h.Ns mainGlobals mg → mg d.name = some (.ref fa) →
      ∃ fd : FuncData, (∀ (s : Shared) (u : Value), BindsTo s fd ⟨[u], []⟩ [(x, u)]) ∧
        ∀ base : Heap, (K w.params).In base → base.Ns mainGlobals mg → FnOk l.prog w (K w.params) mg base CX k fa fd [x] (sp (K w.params)))
    (hsp : ∀ (K : PySem.W.Frag) (H : Hp) (a : Addr) (ns : List Int), ns.length ≤ n → Only H → SqL K H a (ns.map V.int) → sp K [.ref a] H (fun v _ => v = .bl true) fun _ _ _ => False)
    (hCX : ∀ (H : Hp) (s : Shared) (e : Value) (s' : Shared), CX [] H s (fun _ _ _ => False) e s' → False) :
    PySem.W.WalkO q loose XP YP l.row.toRowW d [] (fun f vs => PySem.call f vs) :=
  walk_of (K := K) (CX := fun _ => CX) (sp := fun w => sp (K w.params)) hn hn2 hdf hr hY F (fun w H a ns h1 h2 h3 => hsp (K w.params) H a ns h1 h2 h3) fun _ H s e s' => hCX H s e s'
end L2

/- THE LAST THEOREM (shape; LID, My.* are yours):
   My.Adr: a structure of the addresses that your layer names (classes, functions); My.Txt K t: a structure (Prop) of the equations over K;
   My.txt_mk : {K} {implicit addresses ..} (e1 : nsIn K mainGlobals "law" = some (some (.ref f))) (e2 : K.lookup f = some ⟨oc, od, .func (fnOf "law" "law" params body scope dV kV doc pm an cdv ct), sl⟩) (e3 : codeIn K cdv "law" = true) .. : ∃ t, My.Txt K t

set_option maxRecDepth 100000 in
set_option maxHeartbeats 0 in
theorem PySem.Challenge.cw_LID_holds : PySem.Challenge.rw_LID.Holds := by
  w_on; o_law; k_head; (case hw => w_witness2)
  k_fill
  refine L2.walk_of (l := PySem.Challenge.rw_LID) (n := 63) (k := 40) (x := "script") (CX := fun w => ..) (sp := fun _ => My.sp_law) rfl (by decide) rfl ⟨rfl, by decide, by decide⟩ (fun w h Y => PySem.W.kIn_of Y) ?F ?S ?C
  case F =>
    intro w mg fa h KX G hmg
    have T : ∃ t, My.Txt (L2.KOf KX) t := by
      dsimp only [L2.KOf]                          -- K must stand as «<heap const> w.params» for k_is
      refine' My.txt_mk ?e1 ?e2 ?e3 ..
      (case e1 => PySem.W.k_is)                    -- in the order: a name -> its address -> its object -> its parts
      (case e2 => PySem.W.k_is)
      ..
    obtain ⟨t, T⟩ := T
    have e0 := hmg.symm.trans (PySem.W.mg_of KX G T.law)
    cases e0                                       -- fa is the law's own address
    exact ⟨_, fun s u => .of_eq rfl, fun base kb nb => My.law_fn T kb nb⟩     -- if «.of_eq rfl» comes too early: refine' ⟨_, ?b, fun base kb nb => My.law_fn T kb nb⟩; exact fun s u => .of_eq rfl
  case S => exact fun w H a ns hl hO hS => ..
  case C => exact ..
(the tactic k_is has no namespace: write k_is) -/

/-! SHORT WORDS over the layer: a def of the text, its body, what a loop and a test want. -/
namespace L2
open PySem PySem.Spec PyProof.Rows

/-! ### the text by places -/
/-- the j-th statement of a class's body -/
def inClass (s : Stmt) (j : Nat) : Stmt := match s with
  | .ClassDef _ _ _ body _ _ _ _ _ _ _ => body.getD j (.Pass ⟨0, 0, 0, 0⟩)
  | _ => .Pass ⟨0, 0, 0, 0⟩
def defArgs (s : Stmt) : Arguments := match s with
  | .FunctionDef _ a _ _ _ _ _ _ _ _ => a
  | _ => { posonlyargs := [], args := [], vararg := none, kwonlyargs := [], kw_defaults := [], kwarg := none, defaults := [] }
def defBody (s : Stmt) : List Stmt := match s with
  | .FunctionDef _ _ b _ _ _ _ _ _ _ => b
  | _ => []
def defScope (s : Stmt) : Scope := match s with
  | .FunctionDef _ _ _ _ _ _ sc _ _ _ => sc
  | _ => { kind := .function, names := [], isGenerator := false, isCoroutine := false }

/-! ### no exception leaves a def -/
abbrev CX0 : CXT := fun _ _ _ _ _ _ => False
abbrev E0 : XK := fun _ _ _ => False
theorem pass0 {X : Cx} : Passes CX0 X E0 := fun _ _ _ _ _ _ _ h => h.elim

/-! ### a def (or method) of the text as it stands behind the top -/
structure Fun (K : PySem.W.Frag) (x qual : Str) (st : Stmt) (f : Addr) (fd : FuncData) : Prop where
  ex : ∃ (oc : Value) (od : Option Addr) (kV doc pm : Value) (an : Option Addr) (cdv ct : Value) (osl : Array (Option Value)),
    fd = PySem.W.fnOf x qual (defArgs st) (defBody st) (defScope st) .none kV doc pm an cdv ct ∧ K.lookup f = some ⟨oc, od, .func fd, osl⟩ ∧ PySem.W.codeIn K cdv qual = true
  kp : PySem.W.keepIn K (.ref f) = true
section
variable {P : Program} {w : World} {K : PySem.W.Frag} {mg : Str → Option Value} {base : Heap}
/-- THE RULE for a def: its body as a term of rules, and the reading of that term -/
theorem Fun.ok {x qual : Str} {st : Stmt} {f : Addr} {fd : FuncData} {N ps : List Str} {k : Nat} {sp : Sp} (F : Fun K x qual st f fd) (S : FnScope N ps (defScope st)) (len : ∀ vs H Q E, sp vs H Q E → vs.length = ps.length)
    (hbody : ∀ (cdv : Value) (A : Around) (outer : List Env) (s : Shared) (H : Hp) (vs : List V) (Q : VK) (E : XK), Room k (A.deeper (envOfC qual (defScope st) s.heap.objs.size f cdv)) → sp vs H Q E →
      ∃ t, PSs (cxOf CX0 P w K mg base N qual (defScope st) f cdv A outer s H E).nox (defBody st) t ∧ t { nx := fun _ H' => Q .non H', rt := Q } (start N vs) H) : FnOk P w K mg base CX0 (k + 1) f fd ps sp := by
  obtain ⟨oc, od, kV, doc, pm, an, cdv, ct, osl, rfl, lk, hcd⟩ := F.ex
  refine fn_of lk hcd S len fun A outer s H vs Q E hr hsp => ?_
  obtain ⟨t, h, q⟩ := hbody cdv A outer s H vs Q E hr hsp
  exact ⟨t, h.nox, q⟩
/-- how its arguments bind (no defaults): h is «fun _ _ _ _ _ _ us hl => match us, hl with | [_, _], _ => rfl», one _ a parameter -/
theorem Fun.binds {x qual : Str} {st : Stmt} {f : Addr} {fd : FuncData} {ps : List Str} (F : Fun K x qual st f fd)
    (h : ∀ (kV doc pm : Value) (an : Option Addr) (cdv ct : Value) (us : List Value), us.length = ps.length → bindArgs (PySem.W.fnOf x qual (defArgs st) (defBody st) (defScope st) .none kV doc pm an cdv ct) ⟨us, []⟩ = pure (ps.zip us)) : Binds K fd ps [] := by
  obtain ⟨oc, od, kV, doc, pm, an, cdv, ct, osl, rfl, lk, hcd⟩ := F.ex
  exact .all (h kV doc pm an cdv ct)
theorem fun_mk {x qual : Str} {st : Stmt} {f : Addr} {oc : Value} {od an : Option Addr} {osl : Array (Option Value)} {kV doc pm cdv ct : Value} (l : K.lookup f = some ⟨oc, od, .func (PySem.W.fnOf x qual (defArgs st) (defBody st) (defScope st) .none kV doc pm an cdv ct), osl⟩)
    (c : PySem.W.codeIn K cdv qual = true) (k : PySem.W.keepIn K (.ref f) = true) : Fun K x qual st f (PySem.W.fnOf x qual (defArgs st) (defBody st) (defScope st) .none kV doc pm an cdv ct) := ⟨⟨oc, od, kV, doc, pm, an, cdv, ct, osl, rfl, l, c⟩, k⟩
end
theorem hu_of {A : Around} {k : Nat} (hr : Room k A) : A.units + 1 < cLine := Nat.lt_of_le_of_lt (Nat.add_le_add_left (by decide : 1 ≤ 64) _) hr.units
theorem small1000 {n : Nat} (h : n ≤ 1000) : n < sizeLine := Nat.lt_of_le_of_lt h (by decide)

/-! ### expressions in short: the name that stands in the i-th slot -/
section
variable {X : Cx}
theorem pv (i : Nat) {x : Str} {pos : Pos} (hN : X.N[i]? = some x := by rfl) (hv : Vis X.env.scope x := by first | exact Or.inl rfl | exact Or.inr (Or.inl rfl) | exact Or.inr (Or.inr rfl)) (hd : (x == ("__debug__" : Str)) = false := by decide)
    (hcd : (x == ("__classdict__" : Str)) = false := by decide) : PE X (.Name x pos) (tVar i) := pe_var hN hv hd hcd
end

/-! ### tests -/
theorem iteF {A B : Prop} (h : B) : if false = true then A else B := by
  rw [if_neg Bool.false_ne_true]
  exact h
theorem iteT {A B : Prop} (h : A) : if true = true then A else B := by
  rw [if_pos rfl]
  exact h
theorem iteNS {c A B : Prop} [Decidable c] (hc : c) (h : B) : if (!decide c) = true then A else B := by
  rw [decide_eq_true hc]
  exact iteF h

/-! ### heaps -/
/-- all that was tracked is as it was -/
def Same (H H' : Hp) : Prop := ∀ b o, H b = some o → H' b = some o
theorem Same.refl (H : Hp) : Same H H := fun _ _ h => h
theorem Same.trans {H H1 H2 : Hp} (a : Same H H1) (b : Same H1 H2) : Same H H2 := fun c o h => b c o (a c o h)
theorem Same.free {H H' : Hp} (e : Same H H') {l : Addr} (h : H' l = Option.none) : H l = Option.none := by
  cases q : H l with
  | none => rfl
  | some o =>
    rw [e l o q] at h
    cases h
theorem Same.seq {K : PySem.W.Frag} {H H' : Hp} {a : Addr} {xs : List V} (e : Same H H') (h : SqL K H a xs) : SqL K H' a xs := by
  rcases h with (h | ⟨o, h⟩) | h
  · exact .inl (.inl (e _ _ h))
  · exact .inl (.inr ⟨o, e _ _ h⟩)
  · exact .inr h

/-! ### a dict's pairs: keys that differ -/
section
variable {κ : Type} [DecidableEq κ]
theorem nd_snoc : ∀ {l : List κ} {k : κ}, l.Nodup → ¬ k ∈ l → (l ++ [k]).Nodup
  | [], k, _, _ => by simp
  | a :: r, k, h, hk => by
    obtain ⟨h1, h2⟩ := List.nodup_cons.mp h
    show (a :: (r ++ [k])).Nodup
    refine List.nodup_cons.mpr ⟨fun m => ?_, nd_snoc h2 fun m => hk (List.mem_cons.mpr (Or.inr m))⟩
    rcases List.mem_append.mp m with q | q
    · exact h1 q
    · exact hk (List.mem_cons.mpr (Or.inl (List.mem_singleton.mp q).symm))
end
end L2

set_option Elab.async false
set_option linter.all false
set_option maxRecDepth 100000
/-! COMPREHENSIONS over the hand layer (own work) -/
namespace L2
open PySem PySem.Spec PyProof.Rows

/-- the context of a comprehension's block -/
def Cx.inC (X : Cx) (sc : Scope) (cl : List (Str × Addr)) (C : Addr) (N' : List Str) (ex : List Addr) (s : Shared) (H : Hp) : Cx where
  prog := X.prog
  w := X.w
  K := X.K
  mg := X.mg
  base := X.base
  A := X.A
  N := N'
  s₀ := s
  H₀ := H
  env := compEnvC sc cl C X.env
  outer := X.stack
  stack := X.stack
  ex := ex
  fn := fun _ => false
  calm := X.calm
  pn := []
  xe := fun _ _ => False

theorem closure_go (env : Env) : ∀ (names : List (Str × NameKind)) (cs : List (Str × Addr)), (∀ x, (x, NameKind.free) ∈ names → ∃ c, env.cells.lookup x = some c) →
    (∀ x c, cs.lookup x = some c → env.cells.lookup x = some c) →
    ∃ cl : List (Str × Addr), (forIn names cs fun (p : Str × NameKind) (r : List (Str × Addr)) => if (p.2 == NameKind.free) = true then do let c ← cellOf env p.1; pure (ForInStep.yield ((p.1, c) :: r)) else pure (ForInStep.yield r) : Sem _) = pure cl ∧
      (∀ x c, cl.lookup x = some c → env.cells.lookup x = some c) ∧ (∀ x, (x, NameKind.free) ∈ names → ∃ c, cl.lookup x = some c) ∧ (∀ x c, cs.lookup x = some c → ∃ c', cl.lookup x = some c')
  | [], cs, _, h => ⟨cs, by simp only [List.forIn_nil], h, fun x hx => absurd hx (by simp), fun x c e => ⟨c, e⟩⟩
  | (n, k) :: r, cs, hf, h => by
    by_cases hk : k = NameKind.free
    · subst hk
      obtain ⟨c, hc⟩ := hf n List.mem_cons_self
      have hco : cellOf env n = pure c := by unfold cellOf; rw [hc]
      obtain ⟨cl, e, h1, h2, h3⟩ := closure_go env r ((n, c) :: cs) (fun x hx => hf x (List.mem_cons_of_mem _ hx)) (fun x c' e => by
        rw [List.lookup_cons] at e
        cases hx : x == n with
        | true => rw [hx] at e; cases e; rw [beq_iff_eq.mp hx]; exact hc
        | false => rw [hx] at e; exact h x c' e)
      refine ⟨cl, ?_, h1, fun x hx => ?_, fun x c' e' => ?_⟩
      · rw [List.forIn_cons]
        simp only [hco, beq_self_eq_true, if_true, pure_bind]
        exact e
      · rcases List.mem_cons.mp hx with z | z
        · cases z
          exact h3 n c (by rw [List.lookup_cons, beq_self_eq_true])
        · exact h2 x z
      · refine h3 x (if x == n then c else c') ?_
        rw [List.lookup_cons]
        cases hx : x == n with
        | true => simp
        | false => simpa using e'
    · obtain ⟨cl, e, h1, h2, h3⟩ := closure_go env r cs (fun x hx => hf x (List.mem_cons_of_mem _ hx)) h
      refine ⟨cl, ?_, h1, fun x hx => ?_, h3⟩
      · rw [List.forIn_cons]
        have hb : (k == NameKind.free) = false := by simpa using hk
        simp only [hb, Bool.false_eq_true, if_false, pure_bind]
        exact e
      · rcases List.mem_cons.mp hx with z | z
        · cases z; exact absurd rfl hk
        · exact h2 x z

theorem closure_ok {sc : Scope} {env : Env} (hf : ∀ x, (x, NameKind.free) ∈ sc.names → ∃ c, env.cells.lookup x = some c) :
    ∃ cl : List (Str × Addr), closureFor sc env = pure cl ∧ (∀ x c, cl.lookup x = some c → env.cells.lookup x = some c) ∧ (∀ x, (x, NameKind.free) ∈ sc.names → ∃ c, cl.lookup x = some c) := by
  obtain ⟨cl, e, h1, h2, _⟩ := closure_go env sc.names [] hf (fun x c e => by cases e)
  refine ⟨cl, ?_, h1, h2⟩
  unfold closureFor
  simp only [bind_pure]
  exact e

/-- the tests of a clause -/
def PIf (X : Cx) (ifs : List Expr) (t : TT) : Prop :=
  ∀ (pins : List (Addr × Obj)) (s : Shared) (σ : St) (H : Hp) (Q : Bool → Hp → Prop), Inv X pins σ H s → t σ H Q →
    wpAny (model X.prog X.w) X.A (forIn ifs true fun c r => if r = true then do let ok ← isTrue c X.env (eval c X.env); pure (ForInStep.yield ok) else pure (ForInStep.yield r)) (TP X pins σ Q) X.xe s
def tYes : TT := fun _ H Q => Q true H
theorem pif_nil {X : Cx} : PIf X [] tYes := fun _ _ _ H _ I h => wpAny_tests_nil ⟨H, I, h⟩

/-- the slots of a block: its own names, then the captured ones -/
def σC (n : Nat) (cap : List Nat) (σ : St) : St := List.replicate n none ++ cap.map fun j => (σ[j]?).join
def NC (X : Cx) (own : List Str) (cap : List Nat) : List Str := own ++ cap.map fun j => X.N.getD j Str.empty
/-- what is captured -/
def Caps (X : Cx) (sc : Scope) : List Nat → Prop
  | [] => True
  | j :: r => (∃ x, X.N[j]? = some x ∧ sc.names.lookup x = some .free ∧ (X.env.kindOf x = some .cell ∨ X.env.kindOf x = some .free)) ∧ Caps X sc r
theorem Caps.mem {X : Cx} {sc : Scope} : ∀ {cap : List Nat} {j : Nat}, Caps X sc cap → j ∈ cap → ∃ x, X.N[j]? = some x ∧ sc.names.lookup x = some .free ∧ (X.env.kindOf x = some .cell ∨ X.env.kindOf x = some .free)
  | [], _, _, h => absurd h (by simp)
  | _ :: _, _, c, h => (List.mem_cons.mp h).elim (fun e => e ▸ c.1) fun h' => c.2.mem h'

theorem lookup_mem {α β : Type} [BEq α] [LawfulBEq α] : ∀ {l : List (α × β)} {x : α} {b : β}, l.lookup x = some b → (x, b) ∈ l
  | [], _, _, h => by cases h
  | (y, c) :: r, x, b, h => by
    rw [List.lookup_cons] at h
    cases e : x == y with
    | true => rw [e] at h; cases h; rw [beq_iff_eq.mp e]; exact List.mem_cons_self
    | false => rw [e] at h; exact List.mem_cons_of_mem _ (lookup_mem h)

theorem lookup_mapk (f : Str × NameKind → Str × NameKind) (hf : ∀ p, (f p).1 = p.1) (x : Str) : ∀ (names : List (Str × NameKind)), (names.map f).lookup x = (names.lookup x).map fun k => (f (x, k)).2
  | [] => rfl
  | (n, k) :: r => by
    have ih := lookup_mapk f hf x r
    rw [List.map_cons, List.lookup_cons]
    obtain ⟨a, b, e⟩ : ∃ a b, f (n, k) = (a, b) := ⟨_, _, rfl⟩
    have ea : a = n := by have := hf (n, k); rw [e] at this; exact this
    subst ea
    rw [e, List.lookup_cons]
    cases hx : x == a with
    | true =>
      have hx' := beq_iff_eq.mp hx
      subst hx'
      simp [e]
    | false => simpa using ih
/-- relabelled names: of a free one cell or free; no others become so -/
theorem relabel_lookup {env : Env} {sc : Scope} {x : Str} {k : NameKind} (h : (relabel sc env).names.lookup x = some k) : (sc.names.lookup x = some k) ∨ (k = .cell ∧ sc.names.lookup x = some .free) := by
  unfold relabel at h
  rw [lookup_mapk _ (fun p => by obtain ⟨n, k⟩ := p; dsimp only; split <;> rfl)] at h
  cases e : sc.names.lookup x with
  | none => rw [e] at h; cases h
  | some k0 =>
    rw [e] at h
    simp only [Option.map_some, Option.some.injEq] at h
    split at h
    · rename_i hc
      simp at hc
      right
      exact ⟨h.symm, by rw [hc.1.1]⟩
    · left; exact congrArg some h
theorem relabel_free {env : Env} {sc : Scope} {x : Str} (h : sc.names.lookup x = some .free) : (relabel sc env).names.lookup x = some .cell ∨ (relabel sc env).names.lookup x = some .free := by
  unfold relabel
  rw [lookup_mapk _ (fun p => by obtain ⟨n, k⟩ := p; dsimp only; split <;> rfl), h]
  simp only [Option.map_some]
  split
  · exact .inl rfl
  · exact .inr rfl

section
variable {prog : Program} {w : World} {A : Around} {R : Result → Shared → Prop} {s : Shared}
/-- the loop, a target of any kind, no exception -/
theorem comp_loop {elt target iter : Expr} {ifs : List Expr} {scope : Scope} {pos : Pos} {it acc : Value} {env : Env} (I : Nat → Shared → Prop)
    (turn : ∀ n s, I n s → wpAny (model prog w) A (pyNext it) (fun r s₁ => match r with
      | none => R (.ok .next) s₁
      | some v => wpAny (model prog w) A (letOwnedTupleGo target it v) (fun _ s₀ => wpAny (model prog w) A (assign target env v) (fun _ s₂ =>
          wpAny (model prog w) A (forIn ifs true fun c r => if r = true then do let ok ← isTrue c env (eval c env); pure (ForInStep.yield ok) else pure (ForInStep.yield r)) (fun ok s₃ =>
            if ok = true then wpAny (model prog w) A (eval elt env) (fun x s₄ =>
              wpAny (model prog w) A (call (.builtin "list.append") [acc, x]) (fun _ s₅ => ∃ m, m < n ∧ I m s₅) (fun _ _ => False) s₄) (fun _ _ => False) s₃
            else ∃ m, m < n ∧ I m s₃) (fun _ _ => False) s₂) (fun _ _ => False) s₀) (fun _ _ => False) s₁) (fun _ _ => False) s)
    (n : Nat) (h : I n s) :
    codeAny (model prog w) A (.compLoop (.ListComp elt [⟨target, iter, ifs, 0⟩] scope pos) 0 it acc env) R s := by
  refine codeAny_loop rfl I (fun n s hI => ?_) n h
  show wpAny _ A ((compTurn (.ListComp elt [⟨target, iter, ifs, 0⟩] scope pos) 0 it acc env).onRaise (fun x => do noteFrame x env; theTreesLotGoes x)) _ _ s
  refine wpAny_noted ?_
  rw [compTurn_list]
  refine wpAny_bind (wpAny_standAt (wpAny_bind (wpAny_mono (turn n s hI) (fun r s₁ h₁ => ?_) fun _ _ h' => h'.elim)))
  cases r with
  | none => exact wpAny_pure h₁
  | some v =>
    refine wpAny_bind (wpAny_mono h₁ (fun _ s₀ h₀ => ?_) fun _ _ h' => h'.elim)
    refine wpAny_bind (wpAny_mono h₀ (fun _ s₂ h₂ => wpAny_bind (wpAny_mono h₂ (fun ok s₃ h₃ => ?_) fun _ _ h' => h'.elim)) fun _ _ h' => h'.elim)
    cases ok with
    | false => exact wpAny_pure ⟨rfl, h₃⟩
    | true =>
      exact wpAny_bind (wpAny_bind (wpAny_mono h₃ (fun x s₄ h₄ => wpAny_bind (wpAny_mono h₄ (fun _ s₅ h₅ => wpAny_pure (wpAny_pure ⟨rfl, h₅⟩)) fun _ _ h' => h'.elim)) fun _ _ h' => h'.elim))
end
end L2

set_option Elab.async false
set_option linter.all false
set_option maxRecDepth 100000
namespace L2
open PySem PySem.Spec PyProof.Rows

/-- a comprehension's condition, from its iterator on -/
def CompVC (J : It) (g : TG) (tt : TT) (te : TE) (σ' : St) (Post : VK) (H1 : Hp) : Prop := ∃ W : Nat → Nat → List V → Hp → Prop, (∃ m, W 0 m [] H1) ∧ ∀ i m ys H, W i m ys H → ys.length < sizeLine ∧
   ((J.stop i H ∧ ∀ p, H p = none → Post (.ref p) (upd H p (.lst ys))) ∨
    (J.go i H ∧ ∀ x H', J.yld i H x H' → g x σ' H' fun σ2 H2 => tt σ2 H2 fun b H3 => if b = true then te σ2 H3 fun y H4 => ∃ m', m' < m ∧ W (i + 1) m' (ys ++ [y]) H4 else ∃ m', m' < m ∧ W (i + 1) m' ys H3))
def tComp (n : Nat) (cap : List Nat) (wi : TI) (g : TG) (tt : TT) (te : TE) : TE := fun σ H Q => wi σ H fun J H1 => CompVC J g tt te (σC n cap σ) Q H1

theorem notfp {h : Heap} {b : Addr} {n : Nat} (e : n ≤ b) {o : Obj} (q : h.get? b = some o) (hn : h.objs.size ≤ n) : False := absurd (Nat.lt_of_lt_of_le (Heap.lt_size q) (Nat.le_trans hn e)) (Nat.lt_irrefl _)

section
variable {X : Cx} {pins : List (Addr × Obj)} {σ : St} {H2 : Hp} {s2 : Shared} {sc : Scope} {cl : List (Str × Addr)} {own : List Str} {cap : List Nat} {fp : List Addr}
/-- the block's context is well made -/
theorem Inv.inC {h₁ : Heap} {tk : Nat} {C : Addr} (I : Inv X pins σ H2 s2) (hkind : sc.kind = .function) (hcl1 : ∀ x c, cl.lookup x = some c → X.env.cells.lookup x = some c) (hcl2 : ∀ x, (x, NameKind.free) ∈ sc.names → ∃ c, cl.lookup x = some c)
    (hcell : ∀ y ∈ sc.names, y.2 ≠ .cell) (hcap : Caps X sc cap) (hC : s2.heap.objs.size ≤ C) (hfp : ∀ b ∈ fp, FpOk X pins H2 b) (hfo : ∀ b ∈ fp, ∃ o, s2.heap.get? b = some o) {m : Str → Option Value} (hns : h₁.Ns C m)
    (old : ∀ b o, s2.heap.get? b = some o → h₁.get? b = some o) : Inv (X.inC sc cl C (NC X own cap) fp s2 H2) [] (σC own.length cap σ) H2 { s2 with heap := h₁, toks := tk } := by
  have hlt : ∀ {b : Addr} {o : Obj}, s2.heap.get? b = some o → b ≠ C := fun e => Nat.ne_of_lt (Nat.lt_of_lt_of_le (Heap.lt_size e) hC)
  have mem : ∀ {x : Str} {k : NameKind}, sc.names.lookup x = some k → (x, k) ∈ sc.names := fun e => lookup_mem e
  refine ⟨⟨I.ok.mod, hkind, I.ok.glob, I.ok.blt, hC, fun x y c a b => I.ok.inj x y c (hcl1 x c a) (hcl1 y c b), fun x hx => ?_, fun x c h => (by cases h), I.ok.hd, I.ok.frames, .inl rfl, fun b hb => ⟨?_, fun x c e => ?_⟩, I.bs, Nat.le_trans I.ok.bsz I.sz, fun b o e hb => ?_, fun b hb => ?_, I.stack, I.stkFree⟩,
    rfl, I.bare, Un.kept old, ⟨m, hns, fun i x v e1 e2 e3 => ?_⟩, fun x c e => ?_, I.hok.fresh hC, fun x c e => I.freeC x c (hcl1 x c e), fun p hp => absurd (show p ∈ ([] : List (Addr × Obj)) from hp) (by simp), I.hok.kept old, ?_⟩
  · have hx : (relabel sc X.env).names.lookup x = some .cell ∨ (relabel sc X.env).names.lookup x = some .free := hx
    refine hcl2 x ?_
    rcases hx with hx | hx
    · rcases relabel_lookup hx with q | ⟨_, q⟩
      · exact absurd rfl (hcell _ (mem q))
      · exact mem q
    · rcases relabel_lookup hx with q | ⟨q, _⟩
      · exact mem q
      · cases q
  · obtain ⟨o, e⟩ := hfo b hb
    exact hlt e
  · exact (hfp b hb).2.2.2.2.1 x c (hcl1 x c e)
  · obtain ⟨_, _, _, h4, _⟩ := hfp b hb
    rcases h4 with h4 | h4
    · exact I.ok.noex b o e h4
    · exact notfp h4 e (I.ok.bsz)
  · show b ∉ frs X.stack
    intro z
    rcases List.mem_cons.mp (I.stkSub b z) with q | q
    · exact (hfp b hb).2.1 q
    · exact (hfp b hb).2.2.1 q
  · have e1 : (NC X own cap)[i]? = some x := e1
    unfold σC at e2
    unfold NC at e1
    by_cases hi : i < own.length
    · rw [List.getElem?_append_left (by simpa using hi), List.getElem?_replicate] at e2
      split at e2 <;> cases e2
    · rw [List.getElem?_append_right (by simpa using hi), List.length_replicate, List.getElem?_map] at e2
      rw [List.getElem?_append_right (by simpa using hi), List.getElem?_map] at e1
      cases ej : cap[i - own.length]? with
      | none => rw [ej] at e2; cases e2
      | some j =>
        rw [ej] at e1 e2
        simp only [Option.map_some, Option.some.injEq] at e1 e2
        obtain ⟨y, hy, hfr, hk⟩ := hcap.mem (List.mem_of_getElem? ej)
        have exy : x = y := by rw [← e1, List.getD_eq_getElem?_getD, hy]; rfl
        subst exy
        have e2' : σ[j]? = some (some v) := by
          cases q : σ[j]? with
          | none => rw [q] at e2; cases e2
          | some o => rw [q] at e2; exact congrArg some e2
        have hvis : Vis X.env.scope x := by
          rcases hk with hk | hk
          · exact .inr (.inl hk)
          · exact .inr (.inr hk)
        obtain ⟨m0, hn0, hl0⟩ := I.loc
        obtain ⟨u, r, l⟩ := hl0 j x v hy e2' hvis
        refine ⟨u, r, .inr ⟨relabel_free hfr, ?_⟩⟩
        rcases l with ⟨q, _⟩ | ⟨_, c, ec, z⟩
        · rcases hk with hk | hk <;> (rw [hk] at q; cases q)
        · obtain ⟨c', ec'⟩ := hcl2 x (mem hfr)
          have : c' = c := by have := hcl1 x c' ec'; rw [ec] at this; exact (Option.some.inj this).symm
          subst this
          obtain ⟨oc, hoc, hd⟩ := z
          exact ⟨c', ec', oc, old c' oc hoc, hd⟩
  · obtain ⟨v, oc, hoc, hd⟩ := I.cell x c (hcl1 x c e)
    exact ⟨v, oc, old c oc hoc, hd⟩
  · unfold σC NC Cx.inC
    simp

/-- back from the block -/
theorem Inv.outC {s' : Shared} {H3 : Hp} {C D : Addr} {N' : List Str} {σ' : St} {pins' : List (Addr × Obj)} {ys : List V} {its : List Value} {n : Nat} (I : Inv X pins σ H2 s2) (hfp : ∀ b ∈ fp, FpOk X pins H2 b) (hD : s2.heap.objs.size ≤ D)
    (I4 : Inv (X.inC sc cl C N' fp s2 H2) pins' σ' H3 s') (hl : s'.heap.get? D = some { cls := .type "list", data := .seq its.toArray n }) (hv : Vals ys its) (hz : ys.length ≤ sizeLine) (hn : H3 D = none) : Inv X pins σ (upd H3 D (.lst ys)) s' := by
  have ltD : ∀ {b : Addr} {o : Obj}, s2.heap.get? b = some o → b ≠ D := fun e => Nat.ne_of_lt (Nat.lt_of_lt_of_le (Heap.lt_size e) hD)
  have B : Un (frs X.stack) fp H2 H3 s2.heap s'.heap := I4.base
  have ne : ∀ {b : Addr} {o : HO}, H3 b = some o → b ≠ D := fun e z => by rw [z, hn] at e; cases e
  refine I.call' (ch := fp) I4.os ⟨B.keep, B.slot, fun b o e h0 hx => ?_, B.there, fun b xs e => ?_, fun b o u e => ?_, fun b ps e => ?_⟩ (fun b u e => ?_) I4.bare (fun b hb => ?_)
  · rw [upd_ne (ltD e)]; exact B.free b o e h0 hx
  · have := B.tups b xs e; rw [upd_ne (ne this)]; exact this
  · have := B.frzs b o u e; rw [upd_ne (ne this)]; exact this
  · obtain ⟨more, this⟩ := B.tbls b ps e
    exact ⟨more, by rw [upd_ne (ne this)]; exact this⟩
  · by_cases hb : b = D
    · subst hb
      rw [upd_same] at e
      cases e
      exact ⟨hz, its, n, hv, hl⟩
    · rw [upd_ne hb] at e
      exact (I4.hok b u e).stay (fun _ _ _ q => q) (fun c q => by rw [upd_ne (ne q)]; exact q) (fun c xs q => by rw [upd_ne (ne q)]; exact q)
  · obtain ⟨f0, f1, f2, f3, f4, f5⟩ := hfp b hb
    exact ⟨f3, f1, f4, f5⟩

/-- the rule's core: the loop from the iterator on -/
theorem comp_core {J : It} {it : Addr} {tn : Nat → Heap → Prop} {tg elt iter : Expr} {ifs : List Expr} {pos : Pos} {g : TG} {tt : TT} {te : TE} {RR : Value → Addr → Result → Shared → Prop} {Post : VK}
    (hc : X.calm = true) (I : Inv X pins σ H2 s2) (T : Turn X.prog X.w X.K tg J fp it tn) (st2 : tn 0 s2.heap) (f2 : ∀ b ∈ fp, FpOk X pins H2 b)
    (hkind : sc.kind = .function) (hcl1 : ∀ x c, cl.lookup x = some c → X.env.cells.lookup x = some c) (hcl2 : ∀ x, (x, NameKind.free) ∈ sc.names → ∃ c, cl.lookup x = some c) (hcell : ∀ y ∈ sc.names, y.2 ≠ .cell) (hcap : Caps X sc cap)
    (hg : ∀ cl C fp s H, PG (X.inC sc cl C (NC X own cap) fp s H) tg g) (ht : ∀ cl C fp s H, PIf (X.inC sc cl C (NC X own cap) fp s H) ifs tt) (he : ∀ cl C fp s H, PE (X.inC sc cl C (NC X own cap) fp s H) elt te)
    (hw : ∃ W : Nat → Nat → List V → Hp → Prop, (∃ m, W 0 m [] H2) ∧ ∀ i m ys H, W i m ys H → ys.length < sizeLine ∧
      ((J.stop i H ∧ ∀ p, H p = none → Post (.ref p) (upd H p (.lst ys))) ∨
      (J.go i H ∧ ∀ x H', J.yld i H x H' → g x (σC own.length cap σ) H' fun σ2 H2 => tt σ2 H2 fun b H3 => if b = true then te σ2 H3 fun y H4 => ∃ m', m' < m ∧ W (i + 1) m' (ys ++ [y]) H4 else ∃ m', m' < m ∧ W (i + 1) m' ys H3)))
    (hRR : ∀ (D C : Addr) (H' : Hp) (s' : Shared), Inv X pins σ H' s' → (∃ m, s'.heap.Ns C m) → FpOk X pins H' C → H' D ≠ none → Post (.ref D) H' → RR (.ref D) C (.ok .next) s') {E : Value → Shared → Prop} :
    wpAny (model X.prog X.w) X.A (newList []) (fun acc s₃ => wpAny (model X.prog X.w) X.A (newFunctionEnv sc X.env.globals cl [] X.env.qual none .none (some X.env)) (fun cenv s₄ =>
      codeAny (model X.prog X.w) X.A (.compStart (.ListComp elt [⟨tg, iter, ifs, 0⟩] sc pos) 0 (.ref it) acc { cenv with scope := relabel sc X.env }) (RR acc cenv.locals) s₄) E s₃) E s2 := by
  obtain ⟨W, ⟨m0, w0⟩, turn⟩ := hw
  refine wpAny_newObj_type (wpAny_newFunctionEnv hcell (by intro y hy; simp at hy) (fun h₁ hns₁ hsb₁ => ?_) hkind)
  dsimp only at hns₁ hsb₁ ⊢
  generalize hH : s2.heap.push { cls := .type "list", dict := none, data := .seq ([] : List Value).toArray } = HH at hns₁ hsb₁ ⊢
  have hC : HH.objs.size = s2.heap.objs.size + 1 := by rw [← hH, Heap.size_push]
  have hDC : s2.heap.objs.size ≠ HH.objs.size := by rw [hC]; exact Nat.ne_of_lt (Nat.lt_succ_self _)
  have hCle : s2.heap.objs.size ≤ HH.objs.size := by rw [hC]; exact Nat.le_succ _
  have old : ∀ b o, s2.heap.get? b = some o → h₁.get? b = some o := fun b o e => hsb₁.extBut b o (Nat.ne_of_lt (Nat.lt_of_lt_of_le (Heap.lt_size e) hCle)) (Heap.get?_push_of_some _ (hH ▸ Heap.get?_push_of_some _ e))
  have hacc : h₁.PlainList s2.heap.objs.size #[] := ⟨_, hsb₁.extBut _ _ hDC (Heap.get?_push_of_some _ (hH ▸ Heap.get?_push_size _ rfl))⟩
  have hfo : ∀ b ∈ fp, ∃ o, s2.heap.get? b = some o := fun b hb => let ⟨o, e, _⟩ := T.obj 0 s2.heap st2 b hb; ⟨o, e⟩
  have hst₁ : tn 0 h₁ := T.keep 0 _ _ st2 fun b _ o e => old b o e
  generalize hD : s2.heap.objs.size = D at hacc hDC hCle
  have hDle : s2.heap.objs.size ≤ D := Nat.le_of_eq hD
  have hCle2 : s2.heap.objs.size ≤ HH.objs.size := by rw [hD]; exact hCle
  -- the context
  let X' : Cx := X.inC sc cl HH.objs.size (NC X own cap) fp s2 H2
  have I₁ : Inv X' [] (σC own.length cap σ) H2 { s2 with heap := h₁, toks := s2.toks + ([] : List (Str × Value)).length } := I.inC hkind hcl1 hcl2 hcell hcap hCle2 f2 hfo hns₁ old
  have okX := I₁.ok
  have fpX : ∀ {H' : Hp} {pn : List (Addr × Obj)}, (∀ b ∈ fp, H' b = none) → (∀ p ∈ pn, p.1 = D) → ∀ b ∈ fp, FpOk X' pn H' b := fun {H' pn} hn hp b hb => by
    obtain ⟨o, e⟩ := hfo b hb
    refine ⟨hn b hb, (okX.exf b hb).1, okX.exfs b hb, .inl hb, (okX.exf b hb).2, fun p hq z => ?_⟩
    have hq : p ∈ pn := by
      rcases List.mem_append.mp hq with q | q
      · exact absurd (show p ∈ ([] : List (Addr × Obj)) from q) (by simp)
      · exact q
    rw [hp p hq] at z
    exact absurd (Nat.lt_of_lt_of_le (Heap.lt_size e) hDle) (by rw [← z]; exact Nat.lt_irrefl _)
  have pinD : ∀ {σ' : St} {H' : Hp} {s' : Shared} {oD : Obj}, Inv X' [] σ' H' s' → s'.heap.get? D = some oD → H' D = none → (∀ v, oD.data ≠ .cell v) → Inv X' [(D, oD)] σ' H' s' := fun {σ' H' s' oD} J e n d =>
    J.pins_of fun p hp => by
      have : p = (D, oD) := by simpa using hp
      subst this
      refine ⟨e, n, hDC, fun z => ?_, d⟩
      obtain ⟨_, o, ho, _⟩ := okX.funs.mem z
      exact notfp (Nat.le_refl D) ho hDle
  have loop : ∀ s₃ : Shared, s₃ = { s2 with heap := h₁, toks := s2.toks + ([] : List (Str × Value)).length } →
      codeAny (model X.prog X.w) X.A (.compLoop (.ListComp elt [⟨tg, iter, ifs, 0⟩] sc pos) 0 (.ref it) (.ref D) (compEnvC sc cl HH.objs.size X.env)) (RR (.ref D) HH.objs.size) s₃ := by
    rintro s₃ rfl
    refine comp_loop (fun n s' => ∃ i ys H' its nn, Inv X' [] (σC own.length cap σ) H' s' ∧ tn i s'.heap ∧ (∀ b ∈ fp, H' b = none) ∧ s'.heap.get? D = some { cls := .type "list", data := .seq (List.toArray its) nn } ∧ Vals ys its ∧ H' D = none ∧ W i n ys H') ?_ m0 ?_
    · rintro n s3 ⟨i, ys, H3, its, nn, I3, st3, fr3, hl3, hv3, hD3, w3⟩
      obtain ⟨hlen, tw⟩ := turn i n ys H3 w3
      have I3' := pinD I3 hl3 hD3 (fun v z => by cases z)
      have onlyD : ∀ p ∈ [(D, ({ cls := .type "list", data := .seq (List.toArray its) nn } : Obj))], p.1 = D := fun p hp => by simp at hp; rw [hp]
      rcases tw with ⟨stop, qn⟩ | ⟨go, step⟩
      · refine thn (T.done X' rfl rfl rfl hc i _ s3 _ H3 (fun _ _ => False) I3' (fpX fr3 onlyD) st3 stop) fun r s4 ⟨hr, I4⟩ => ?_
        subst hr
        have hl4 := (I4.pin (D, _) (List.mem_append_right _ List.mem_cons_self)).1
        have I5 := I.outC (fp := fp) f2 hDle I4 hl4 hv3 (Nat.le_of_lt hlen) hD3
        obtain ⟨m4, hn4, _⟩ := I4.loc
        refine hRR D HH.objs.size _ s4 I5 ⟨m4, hn4⟩ ?_ (by rw [upd_same]; simp) (qn D hD3)
        refine I.fpOk hCle2 ?_
        rw [upd_ne (Ne.symm hDC)]
        exact I4.free
      · refine thn (T.item X' rfl rfl rfl hc i _ s3 _ H3 (fun _ _ => False) I3' (fpX fr3 onlyD) st3 go) fun r s4 ⟨u, hr, h4⟩ => ?_
        subst hr
        refine thn h4 fun _ s5 ⟨x, H5, I5, r5, y5, st5, fr5⟩ => ?_
        have I5' := I5.pinned (fpX fr5 onlyD) (T.obj _ _ st5)
        refine thn (hg _ _ _ _ _ _ s5 _ H5 x u _ I5' r5 (step x H5 y5)) fun _ s6 ⟨σ6, H6, I6, q6⟩ => ?_
        refine thn (ht _ _ _ _ _ _ s6 σ6 H6 _ I6 q6) fun b s7 ⟨H7, I7, q7⟩ => ?_
        have back : ∀ {σ8 : St} {H8 : Hp} {s8 : Shared}, Inv X' ([(D, ({ cls := .type "list", data := .seq (List.toArray its) nn } : Obj))] ++ pinsAt fp s5.heap) σ8 H8 s8 →
            Inv X' [] (σC own.length cap σ) H8 s8 ∧ tn (i + 1) s8.heap ∧ (∀ b ∈ fp, H8 b = none) ∧ s8.heap.get? D = some { cls := .type "list", data := .seq (List.toArray its) nn } ∧ H8 D = none := fun {σ8 H8 s8} I8 => by
          have pD := I8.pin (D, _) (List.mem_append_right _ (List.mem_append_left _ List.mem_cons_self))
          refine ⟨?_, T.keep _ _ _ st5 fun b hb o e => (I8.pin (b, o) (List.mem_append_right _ (List.mem_append_right _ (mem_pinsAt hb e)))).1, fun b hb => ?_, pD.1, pD.2.1⟩
          · have I8' : Inv X' [] σ8 H8 s8 := I8.pins_of fun p hp => absurd hp (by simp)
            refine ⟨I8'.ok, I8'.os, I8'.bare, I8'.base, ?_, I8'.cell, I8'.free, I8'.freeC, I8'.pin, I8'.hok, I₁.len⟩
            -- the captured ones stand as at the entry: their cells are kept
            obtain ⟨m8, hn8, _⟩ := I8'.loc
            obtain ⟨m1, hn1, hl1⟩ := I₁.loc
            refine ⟨m8, hn8, fun i x v e1 e2 e3 => ?_⟩
            obtain ⟨u, ru, l⟩ := hl1 i x v e1 e2 e3
            refine ⟨u, ru, ?_⟩
            rcases l with ⟨k, e⟩ | ⟨k, c, ec, oc, hoc, hd⟩
            · exfalso
              have e1 : (NC X own cap)[i]? = some x := e1
              unfold σC at e2
              unfold NC at e1
              by_cases hi : i < own.length
              · rw [List.getElem?_append_left (by simpa using hi), List.getElem?_replicate] at e2
                split at e2 <;> cases e2
              · rw [List.getElem?_append_right (by simpa using hi), List.getElem?_map] at e1
                cases ej : cap[i - own.length]? with
                | none => rw [ej] at e1; cases e1
                | some j =>
                  rw [ej] at e1
                  simp only [Option.map_some, Option.some.injEq] at e1
                  obtain ⟨y, hy, hfr, hk⟩ := hcap.mem (List.mem_of_getElem? ej)
                  have exy : x = y := by rw [← e1, List.getD_eq_getElem?_getD, hy]; rfl
                  subst exy
                  have k : (relabel sc X.env).names.lookup x = some .local := k
                  rcases relabel_free (env := X.env) hfr with q | q <;> (rw [q] at k; cases k)
            · refine .inr ⟨k, c, ec, ?_⟩
              have ec2 := hcl1 x c ec
              have c0 : ∃ v, s2.heap.IsCell c v := I.cell x c ec2
              obtain ⟨v0, o0, ho0, hd0⟩ := c0
              have := old c o0 ho0
              rw [this] at hoc
              cases hoc
              have nfp : c ∉ fp := fun z => (f2 c z).2.2.2.2.1 x c ec2 rfl
              obtain ⟨sl, q⟩ := (show Un (frs X.stack) fp H2 H8 s2.heap s8.heap from I8'.base).any ho0 (I.freeC x c ec2) nfp
              exact ⟨_, q, hd⟩
          · obtain ⟨o, e, d⟩ := T.obj _ _ st5 b hb
            exact (I8.pin (b, o) (List.mem_append_right _ (List.mem_append_right _ (mem_pinsAt hb e)))).2.1
        cases b with
        | false =>
          rw [if_neg Bool.false_ne_true]
          rw [if_neg Bool.false_ne_true] at q7
          obtain ⟨m', hm, w7⟩ := q7
          obtain ⟨J1, J2, J3, J4, J5⟩ := back I7
          exact ⟨m', hm, i + 1, ys, H7, its, nn, J1, J2, J3, J4, hv3, J5, w7⟩
        | true =>
          rw [if_pos rfl]
          rw [if_pos rfl] at q7
          refine thn (he _ _ _ _ _ _ s7 σ6 H7 _ I7 q7) fun y s8 ⟨yv, H8, I8, r8, m', hm, w8⟩ => ?_
          obtain ⟨J1, J2, J3, J4, J5⟩ := back I8
          refine wpAny_list_append_plain (hsz := by rw [List.size_toArray, ← hv3.length]; exact Nat.le_of_lt hlen) ⟨nn, J4⟩ fun h₅ hl₅ hs₅ => ?_
          obtain ⟨n5, e5⟩ := hl₅
          have kk : ∀ b o, b ≠ D → s8.heap.get? b = some o → h₅.get? b = some o := fun b o hb e => hs₅.extBut b o hb e
          refine ⟨m', hm, i + 1, ys ++ [yv], H8, its ++ [y], n5, ?_, ?_, J3, by rw [e5]; simp, hv3.append (.cons r8 .nil), J5, w8⟩
          · exact J1.turned (t' := s8.toks) kk J5 hDC (.inr hDle) (fun x c e z => by
              obtain ⟨v0, o0, ho0, hd0⟩ := I.cell x c (hcl1 x c e)
              exact notfp (Nat.le_of_eq z.symm) ho0 hDle) (fun p hp => absurd (show p ∈ ([] : List (Addr × Obj)) from hp) (by simp))
          · refine T.keep _ _ _ J2 fun b hb o e => kk b o (fun z => ?_) e
            obtain ⟨o', e'⟩ := hfo b hb
            exact notfp (Nat.le_of_eq z.symm) e' hDle
    · exact ⟨0, [], H2, [], _, I₁, hst₁, fun b hb => (f2 b hb).1, hacc.choose_spec, .nil, I.hok.fresh hDle, w0⟩
  subst hD
  exact codeAny_compStart_list (loop _ rfl) (T.self _ 0 _ _ _ hst₁ (loop _ rfl))
end
end L2

set_option Elab.async false
set_option linter.all false
set_option maxRecDepth 100000
namespace L2
open PySem PySem.Spec PyProof.Rows
section
variable {X : Cx} {sc : Scope} {own : List Str} {cap : List Nat}
theorem free_cells {pins : List (Addr × Obj)} {σ : St} {H : Hp} {s : Shared} (I : Inv X pins σ H s) (hfr : ∀ y ∈ sc.names, y.2 = .free → X.env.kindOf y.1 = some .cell ∨ X.env.kindOf y.1 = some .free) :
    ∃ cl : List (Str × Addr), closureFor sc X.env = pure cl ∧ (∀ x c, cl.lookup x = some c → X.env.cells.lookup x = some c) ∧ (∀ x, (x, NameKind.free) ∈ sc.names → ∃ c, cl.lookup x = some c) :=
  closure_ok fun x hx => I.ok.has x (hfr _ hx rfl)

/-- [elt for tg in iter if ..] -/
theorem pe_comp {tg elt iter : Expr} {ifs : List Expr} {pos : Pos} {wi : TI} {g : TG} {tt : TT} {te : TE} (own : List Str) (cap : List Nat) (hc : X.calm = true) (hi : PI X tg iter wi)
    (hg : ∀ cl C fp s H, PG (X.inC sc cl C (NC X own cap) fp s H) tg g) (ht : ∀ cl C fp s H, PIf (X.inC sc cl C (NC X own cap) fp s H) ifs tt) (he : ∀ cl C fp s H, PE (X.inC sc cl C (NC X own cap) fp s H) elt te)
    (hcap : Caps X sc cap) (hkind : sc.kind = .function := by rfl) (hcell : ∀ y ∈ sc.names, y.2 ≠ .cell := by decide +kernel)
    (hfr : ∀ y ∈ sc.names, y.2 = .free → X.env.kindOf y.1 = some .cell ∨ X.env.kindOf y.1 = some .free := by decide +kernel)
    (hnames : ∀ x ∈ sc.names, x.2 = .local → sc.names.lookup x.1 = some .local := by decide +kernel) (hs : ∀ x, foldedSetIterable iter X.env x = pure x := by intro _; rfl) :
    PE X (.ListComp elt [⟨tg, iter, ifs, 0⟩] sc pos) (tComp own.length cap wi g tt te) := by
  intro pins s σ H Q I h
  obtain ⟨cl, hclos, hcl1, hcl2⟩ := free_cells I hfr
  rw [eval_ListComp]
  refine wpAny_comprehension_free (use := none) rfl hs hclos hkind hnames (thn (hi pins s σ H _ I h) fun v s1 h1 => thn h1 fun itv s2 h2 => ?_)
  obtain ⟨it, fp, tn, J, H2, e, I2, T, st2, f2, hw⟩ := h2
  subst e
  refine comp_core (RR := fun acc C => compPost (model X.prog X.w) X.A X.xe none (EP X pins σ Q) acc C) (Post := Q) hc I2 T st2 f2 hkind hcl1 hcl2 hcell hcap hg ht he hw ?_
  intro D C H' s' I' hm fC hD q
  obtain ⟨m, hn⟩ := hm
  refine ⟨m, hn, fun h' hs' => ?_⟩
  obtain ⟨f0, f1, f2', f3, f4, f5⟩ := fC
  refine ⟨.ref D, H', ?_, rfl, q⟩
  exact I'.turned (t' := s'.toks) (fun b o hb e => hs'.extBut b o hb e) f0 f1 f3 f4 f5

end
end L2

set_option Elab.async false
set_option linter.all false
set_option maxRecDepth 100000
/-! DATA that a value stands for (own work) -/
namespace L2
open PySem PySem.Spec PyProof.Rows

inductive D where
  | non | bl (b : Bool) | int (i : Int) | str (x : Str) | lst (ds : List D) | tup (ds : List D) | dct (es : List (Key × D))

mutual
inductive Rep (K : PySem.W.Frag) (H : Hp) : V → D → Prop
  | non : Rep K H .non .non
  | bl (b : Bool) : Rep K H (.bl b) (.bl b)
  | int (i : Int) : Rep K H (.int i) (.int i)
  | str (x : Str) : Rep K H (.str x) (.str x)
  | lst {a : Addr} {xs : List V} {ds : List D} : SqL K H a xs → Reps K H xs ds → Rep K H (.ref a) (.lst ds)
  | tup {a : Addr} {xs : List V} {ds : List D} : SqT K H a xs → Reps K H xs ds → Rep K H (.ref a) (.tup ds)
  | dct {a : Addr} {kvs : List (Key × V)} {es : List (Key × D)} : Rd H a (.dK kvs) → RepD K H kvs es → Rep K H (.ref a) (.dct es)
inductive Reps (K : PySem.W.Frag) (H : Hp) : List V → List D → Prop
  | nil : Reps K H [] []
  | cons {x : V} {d : D} {xs : List V} {ds : List D} : Rep K H x d → Reps K H xs ds → Reps K H (x :: xs) (d :: ds)
inductive RepD (K : PySem.W.Frag) (H : Hp) : List (Key × V) → List (Key × D) → Prop
  | nil : RepD K H [] []
  | cons {k : Key} {x : V} {d : D} {xs : List (Key × V)} {ds : List (Key × D)} : Rep K H x d → RepD K H xs ds → RepD K H ((k, x) :: xs) ((k, d) :: ds)
end

/-- what can be read stays to be read (a dict may be held fast or let go) -/
structure Sm (H H' : Hp) : Prop where
  lst : ∀ a xs, Rd H a (.lst xs) → Rd H' a (.lst xs)
  tup : ∀ a xs, Rd H a (.tup xs) → Rd H' a (.tup xs)
  dK : ∀ a kvs, Rd H a (.dK kvs) → Rd H' a (.dK kvs)
theorem Sm.refl (H : Hp) : Sm H H := ⟨fun _ _ h => h, fun _ _ h => h, fun _ _ h => h⟩
theorem Sm.trans {H H1 H2 : Hp} (a : Sm H H1) (b : Sm H1 H2) : Sm H H2 := ⟨fun c x h => b.lst c x (a.lst c x h), fun c x h => b.tup c x (a.tup c x h), fun c x h => b.dK c x (a.dK c x h)⟩
theorem Same.sm {H H' : Hp} (e : Same H H') : Sm H H' :=
  ⟨fun a xs h => h.elim (fun q => .inl (e _ _ q)) fun ⟨o, q⟩ => .inr ⟨o, e _ _ q⟩, fun a xs h => h.elim (fun q => .inl (e _ _ q)) fun ⟨o, q⟩ => .inr ⟨o, e _ _ q⟩, fun a xs h => h.elim (fun q => .inl (e _ _ q)) fun ⟨o, q⟩ => .inr ⟨o, e _ _ q⟩⟩
theorem Same.updN {H : Hp} {p : Addr} {o : HO} (h : H p = none) : Same H (upd H p o) := fun b u e => by rw [upd_ne (ne_of_none e h)]; exact e
theorem Same.upd {H H' : Hp} {p : Addr} {o : HO} (s : Same H H') (h : H p = none) : Same H (upd H' p o) := fun b u e => by rw [upd_ne (ne_of_none e h)]; exact s b u e

section
variable {K : PySem.W.Frag} {H H' : Hp}
theorem Sm.sqL (e : Sm H H') {a : Addr} {xs : List V} (h : SqL K H a xs) : SqL K H' a xs := by
  rcases h with h | h
  · exact .inl (e.lst a xs h)
  · exact .inr h
theorem Sm.sqT (e : Sm H H') {a : Addr} {xs : List V} (h : SqT K H a xs) : SqT K H' a xs := by
  rcases h with h | h
  · exact .inl (e.tup a xs h)
  · exact .inr h
mutual
theorem Rep.sm (e : Sm H H') : ∀ {x : V} {d : D}, Rep K H x d → Rep K H' x d
  | _, _, .non => .non
  | _, _, .bl b => .bl b
  | _, _, .int i => .int i
  | _, _, .str x => .str x
  | _, _, .lst h r => .lst (e.sqL h) (Reps.sm e r)
  | _, _, .tup h r => .tup (e.sqT h) (Reps.sm e r)
  | _, _, .dct h r => .dct (e.dK _ _ h) (RepD.sm e r)
theorem Reps.sm (e : Sm H H') : ∀ {x : List V} {d : List D}, Reps K H x d → Reps K H' x d
  | _, _, .nil => .nil
  | _, _, .cons h r => .cons (Rep.sm e h) (Reps.sm e r)
theorem RepD.sm (e : Sm H H') : ∀ {x : List (Key × V)} {d : List (Key × D)}, RepD K H x d → RepD K H' x d
  | _, _, .nil => .nil
  | _, _, .cons h r => .cons (Rep.sm e h) (RepD.sm e r)
end
theorem Reps.length {xs : List V} {ds : List D} : Reps K H xs ds → xs.length = ds.length
  | .nil => rfl
  | .cons _ r => by rw [List.length_cons, List.length_cons, r.length]
theorem RepD.length {xs : List (Key × V)} {ds : List (Key × D)} : RepD K H xs ds → xs.length = ds.length
  | .nil => rfl
  | .cons _ r => by rw [List.length_cons, List.length_cons, r.length]
theorem Reps.get : ∀ {xs : List V} {ds : List D} {i : Nat} {d : D}, Reps K H xs ds → ds[i]? = some d → ∃ x, xs[i]? = some x ∧ Rep K H x d
  | _, _, _, _, .nil, e => by simp at e
  | _, _, 0, _, .cons h _, e => by simp at e; subst e; exact ⟨_, rfl, h⟩
  | _, _, i + 1, d, .cons _ r, e => by
    obtain ⟨x, h1, h2⟩ := Reps.get (i := i) (d := d) r (by simpa using e)
    exact ⟨x, by simpa using h1, h2⟩
theorem Reps.get' : ∀ {xs : List V} {ds : List D} {i : Nat} {x : V}, Reps K H xs ds → xs[i]? = some x → ∃ d, ds[i]? = some d ∧ Rep K H x d
  | _, _, _, _, .nil, e => by simp at e
  | _, _, 0, _, .cons h _, e => by simp at e; subst e; exact ⟨_, rfl, h⟩
  | _, _, i + 1, d, .cons _ r, e => by
    obtain ⟨x, h1, h2⟩ := Reps.get' (i := i) (x := d) r (by simpa using e)
    exact ⟨x, by simpa using h1, h2⟩
theorem Reps.append : ∀ {xs ys : List V} {ds es : List D}, Reps K H xs ds → Reps K H ys es → Reps K H (xs ++ ys) (ds ++ es)
  | _, _, _, _, .nil, s => s
  | _, _, _, _, .cons r t, s => .cons r (Reps.append t s)
theorem Reps.one {x : V} {d : D} (h : Rep K H x d) : Reps K H [x] [d] := .cons h .nil
theorem Reps.take : ∀ {xs : List V} {ds : List D} (n : Nat), Reps K H xs ds → Reps K H (xs.take n) (ds.take n)
  | _, _, 0, _ => .nil
  | _, _, _ + 1, .nil => .nil
  | _, _, n + 1, .cons r t => .cons r (Reps.take n t)
theorem Reps.drop : ∀ {xs : List V} {ds : List D} (n : Nat), Reps K H xs ds → Reps K H (xs.drop n) (ds.drop n)
  | _, _, 0, r => r
  | _, _, _ + 1, .nil => .nil
  | _, _, n + 1, .cons _ t => Reps.drop n t
theorem Reps.eraseIdx : ∀ {xs : List V} {ds : List D} (n : Nat), Reps K H xs ds → Reps K H (xs.eraseIdx n) (ds.eraseIdx n)
  | _, _, _, .nil => .nil
  | _, _, 0, .cons _ t => t
  | _, _, n + 1, .cons r t => .cons r (Reps.eraseIdx n t)
/-- flat data: the value is written -/
theorem Reps.strs {ss : List Str} : Reps K H (ss.map V.str) (ss.map D.str) := by
  induction ss with
  | nil => exact .nil
  | cons x r ih => exact .cons (.str x) ih
theorem Reps.ints {ss : List Int} : Reps K H (ss.map V.int) (ss.map D.int) := by
  induction ss with
  | nil => exact .nil
  | cons x r ih => exact .cons (.int x) ih
theorem RepD.get : ∀ {xs : List (Key × V)} {ds : List (Key × D)} {k : Key} , RepD K H xs ds →
    (∀ d, (ds.find? fun e => decide (e.1 = k)).map (·.2) = some d → ∃ x, valV xs k = some x ∧ Rep K H x d) ∧ ((ds.find? fun e => decide (e.1 = k)) = none → valV xs k = none)
  | _, _, _, .nil => ⟨fun d e => (by cases e), fun _ => rfl⟩
  | _, _, k, .cons (k := k0) h r => by
    obtain ⟨i1, i2⟩ := RepD.get (k := k) r
    by_cases e : k0 = k
    · subst e
      refine ⟨fun d ed => ?_, fun ed => ?_⟩
      · simp at ed
        subst ed
        exact ⟨_, by simp [valV], h⟩
      · simp at ed
    · refine ⟨fun d ed => ?_, fun ed => ?_⟩
      · rw [List.find?_cons, decide_eq_false e] at ed
        obtain ⟨x, h1, h2⟩ := i1 d ed
        exact ⟨x, by unfold valV; rw [List.find?_cons, decide_eq_false e]; exact h1, h2⟩
      · rw [List.find?_cons, decide_eq_false e] at ed
        unfold valV; rw [List.find?_cons, decide_eq_false e]; exact i2 ed
theorem RepD.keys {xs : List (Key × V)} {ds : List (Key × D)} : RepD K H xs ds → xs.map (·.1) = ds.map (·.1)
  | .nil => rfl
  | .cons _ r => by rw [List.map_cons, List.map_cons, r.keys]
end
end L2

set_option Elab.async false
set_option linter.all false
set_option maxRecDepth 100000
/-! EQUALITY of data, where it holds (own work) -/
namespace L2
open PySem PySem.Spec PyProof.Rows PySem.SeqAt

def EqIn (P : Program) (w : World) (A : Around) (s : Shared) (y x : Value) (b : Bool) : Prop :=
  ∀ (E : Value → Shared → Prop) (Q : Bool → Shared → Prop), Q b s → wpAny (model P w) A (eqBool y x) Q E s
theorem EqIn.of {P : Program} {w : World} {A : Around} {s : Shared} {y x : Value} {b : Bool} (h : EqAt A s y x b) : EqIn P w A s y x b := fun E Q q => h P w E Q q

/- data without dicts; how deep -/
mutual
def D.flat : D → Bool
  | .dct _ => false
  | .lst ds => D.flats ds
  | .tup ds => D.flats ds
  | _ => true
def D.flats : List D → Bool
  | [] => true
  | d :: r => d.flat && D.flats r
end
mutual
def D.dep : D → Nat
  | .dct es => D.depD es + 1
  | .lst ds => D.deps ds + 1
  | .tup ds => D.deps ds + 1
  | _ => 0
def D.deps : List D → Nat
  | [] => 0
  | d :: r => max d.dep (D.deps r)
def D.depD : List (Key × D) → Nat
  | [] => 0
  | (_, d) :: r => max d.dep (D.depD r)
end
theorem D.flats_get : ∀ {ds : List D} {i : Nat} {d : D}, D.flats ds = true → ds[i]? = some d → d.flat = true
  | [], _, _, _, e => by simp at e
  | d :: r, 0, _, h, e => by simp at e; subst e; simp [D.flats] at h; exact h.1
  | _ :: r, i + 1, _, h, e => by simp [D.flats] at h; exact D.flats_get h.2 (by simpa using e)
theorem D.deps_get : ∀ {ds : List D} {i : Nat} {d : D}, ds[i]? = some d → d.dep ≤ D.deps ds
  | [], _, _, e => by simp at e
  | d :: r, 0, _, e => by simp at e; subst e; simp only [D.deps]; omega
  | _ :: r, i + 1, d, e => by
    have := D.deps_get (ds := r) (i := i) (d := d) (by simpa using e)
    simp only [D.deps]
    omega

section
variable {X : Cx} {pins : List (Addr × Obj)} {σ : St} {H : Hp} {s : Shared}
theorem all_range_true (n : Nat) : (List.range n).all (fun _ => true) = true := by simp
theorem RelV.eqAt_flat {x : V} {u v : Value} (A : Around) (r : RelV x u) (q : RelV x v) (f : flatV x = true) : EqAt A s u v true := by
  have h := eqAt_V (A := A) (s := s) r q f f
  have e : eqV x x = true := by cases x <;> first | exact absurd (show false = true from f) Bool.false_ne_true | rfl | (simp [eqV]; done)
  rw [e] at h
  exact h
/-- two things that stand for the same data without dicts are equal -/
theorem rep_eqAt (I : Inv X pins σ H s) : ∀ (d : D) {x y : V} {u v : Value} {A : Around}, d.flat = true → A.units + d.dep < cLine → Rep X.K H x d → Rep X.K H y d → RelV x u → RelV y v → EqAt A s u v true ∧ (∀ a b, u = .ref a → v = .ref b → RcAt A s u v true ∧ RcNeAt A s u v false)
  | .non, x, y, u, v, A, _, _, r1, r2, e1, e2 => by cases r1; cases r2; exact ⟨RelV.eqAt_flat A e1 e2 rfl, fun a b h _ => by cases e1; cases h⟩
  | .bl _, x, y, u, v, A, _, _, r1, r2, e1, e2 => by cases r1; cases r2; exact ⟨RelV.eqAt_flat A e1 e2 rfl, fun a b h _ => by cases e1; cases h⟩
  | .int _, x, y, u, v, A, _, _, r1, r2, e1, e2 => by cases r1; cases r2; exact ⟨RelV.eqAt_flat A e1 e2 rfl, fun a b h _ => by obtain ⟨t, rfl⟩ := e1; cases h⟩
  | .str _, x, y, u, v, A, _, _, r1, r2, e1, e2 => by cases r1; cases r2; exact ⟨RelV.eqAt_flat A e1 e2 rfl, fun a b h _ => by obtain ⟨t, rfl⟩ := e1; cases h⟩
  | .dct _, _, _, _, _, _, f, _, _, _, _, _ => by cases f
  | .lst ds, x, y, u, v, A, f, hu, r1, r2, e1, e2 => by
    cases r1 with
    | lst q1 p1 =>
    cases r2 with
    | lst q2 p2 =>
    cases e1; cases e2
    rename_i a1 xs1 a2 xs2
    obtain ⟨i1, v1, l1, _⟩ := I.list q1
    obtain ⟨i2, v2, l2, _⟩ := I.list q2
    have n1 := p1.length; have n2 := p2.length; have m1 := v1.length; have m2 := v2.length
    have hd : A.units + (D.deps ds + 1) < cLine := hu
    have ie : ∀ j (h1 : j < i1.toArray.size) (h2 : j < i2.toArray.size), EqAt A.in1 s i1.toArray[j] i2.toArray[j] true := fun j h1 h2 => by
      have h1' : j < i1.length := by simpa using h1
      have h2' : j < i2.length := by simpa using h2
      have hj : j < ds.length := by omega
      have eds : ds[j]? = some ds[j] := List.getElem?_eq_getElem hj
      obtain ⟨y1, g1, w1⟩ := p1.get eds
      obtain ⟨y2, g2, w2⟩ := p2.get eds
      obtain ⟨u1, k1, z1⟩ := v1.get g1
      obtain ⟨u2, k2, z2⟩ := v2.get g2
      have c1 : i1.toArray[j] = u1 := by simpa [List.getElem?_eq_getElem h1'] using k1
      have c2 : i2.toArray[j] = u2 := by simpa [List.getElem?_eq_getElem h2'] using k2
      rw [c1, c2]
      have hdep := D.deps_get eds
      exact (rep_eqAt I ds[j] (A := A.in1) (D.flats_get f eds) (by show A.units + 1 + _ < cLine; omega) w1 w2 z1 z2).1
    have rc := RcAt.lists (A := A) (e := fun _ => true) l1.isList l2.isList (by simp; omega) (by omega) ie
    have rn := RcNeAt.lists (A := A) (e := fun _ => true) l1.isList l2.isList (by simp; omega) (by omega) ie
    rw [all_range_true] at rc rn
    refine ⟨?_, fun _ _ _ _ => ⟨rc, rn⟩⟩
    by_cases e : a1 = a2
    · subst e; exact EqAt.same _
    · exact EqAt.of_refs e rc
  | .tup ds, x, y, u, v, A, f, hu, r1, r2, e1, e2 => by
    cases r1 with
    | tup q1 p1 =>
    cases r2 with
    | tup q2 p2 =>
    cases e1; cases e2
    rename_i a1 xs1 a2 xs2
    obtain ⟨i1, v1, l1, _⟩ := I.tuple q1
    obtain ⟨i2, v2, l2, _⟩ := I.tuple q2
    have n1 := p1.length; have n2 := p2.length; have m1 := v1.length; have m2 := v2.length
    have hd : A.units + (D.deps ds + 1) < cLine := hu
    have ie : ∀ j (h1 : j < i1.toArray.size) (h2 : j < i2.toArray.size), EqAt A.in1 s i1.toArray[j] i2.toArray[j] true := fun j h1 h2 => by
      have h1' : j < i1.length := by simpa using h1
      have h2' : j < i2.length := by simpa using h2
      have hj : j < ds.length := by omega
      have eds : ds[j]? = some ds[j] := List.getElem?_eq_getElem hj
      obtain ⟨y1, g1, w1⟩ := p1.get eds
      obtain ⟨y2, g2, w2⟩ := p2.get eds
      obtain ⟨u1, k1, z1⟩ := v1.get g1
      obtain ⟨u2, k2, z2⟩ := v2.get g2
      have c1 : i1.toArray[j] = u1 := by simpa [List.getElem?_eq_getElem h1'] using k1
      have c2 : i2.toArray[j] = u2 := by simpa [List.getElem?_eq_getElem h2'] using k2
      rw [c1, c2]
      have hdep := D.deps_get eds
      exact (rep_eqAt I ds[j] (A := A.in1) (D.flats_get f eds) (by show A.units + 1 + _ < cLine; omega) w1 w2 z1 z2).1
    have t1 : s.heap.IsTuple a1 i1.toArray := l1
    have t2 : s.heap.IsTuple a2 i2.toArray := l2
    have rc := RcAt.tuples (A := A) (e := fun _ => true) t1 t2 (by omega) ie
    have rn := RcNeAt.tuples (A := A) (e := fun _ => true) t1 t2 (by omega) ie
    have sz : (i1.toArray.size == i2.toArray.size) = true := by simp; omega
    rw [all_range_true, sz] at rc rn
    refine ⟨?_, fun _ _ _ _ => ⟨rc, rn⟩⟩
    by_cases e : a1 = a2
    · subst e; exact EqAt.same _
    · exact EqAt.of_refs e rc
termination_by d => sizeOf d
decreasing_by
  all_goals simp_wf
  all_goals (have := List.sizeOf_lt_of_mem (List.getElem_mem hj); omega)
end
end L2

set_option Elab.async false
set_option linter.all false
set_option maxRecDepth 100000
namespace L2
open PySem PySem.Spec PyProof.Rows PySem.SeqAt

section
variable {P : Program} {w : World} {κ : Type} [DecidableEq κ] {kd : KeyKind P w κ} {A : Around} {E : Value → Shared → Prop} {s : Shared}
/-- every pair of the one has its like in the other -/
def Likes (P : Program) (w : World) (A : Around) (s : Shared) (qs ps : List (κ × Value)) : Prop := ∀ k v, (k, v) ∈ ps → ∃ y, valueAt qs k = some y ∧ EqIn P w A s v y true
theorem pairs_alike {nm : String} {p q : Addr} {ps qs : List (κ × Value)} {Q : Bool → Shared → Prop} (np : (p == sysModules) = false) (nq : (q == sysModules) = false) (dp : s.heap.DictOf kd p ps) (dq : s.heap.DictOf kd q qs)
    (hl : ps.length = qs.length) (hk : Likes P w A s qs ps) (h : Q true s) : wpAny (model P w) A (Builtin.Dict.samePairs nm p q) Q E s := by
  obtain ⟨o1, e1, n1, g1, _, d1, k1, r1, _⟩ := dp
  obtain ⟨o2, e2, n2, g2, _, d2, k2, r2, _⟩ := dq
  have l1 : ps.length = e1.size := (r1.length).symm.trans Array.length_toList
  have l2 : qs.length = e2.size := (r2.length).symm.trans Array.length_toList
  have look : ∀ k, findBy kd.is e2 k = valueAt qs k := fun k => by
    have := r2.find k
    rw [← this]
    clear this l2 r2 k2 d2 g2
    obtain ⟨l⟩ := e2
    simp [findBy]
  have sz : e1.size = e2.size := by omega
  unfold Builtin.Dict.samePairs Builtin.Dict.showsAll
  have np' : ¬ (p == sysModules) = true := by rw [np]; decide
  have nq' : ¬ (q == sysModules) = true := by rw [nq]; decide
  rw [if_neg np', if_neg nq']
  refine wpAny_bind (wpAny_pure (wpAny_bind (wpAny_pure (wpAny_bind (wpAny_dictEntries g1 d1 ?_)))))
  dsimp only
  refine wpAny_bind (wpAny_dictEntries g2 d2 ?_)
  rw [if_neg (by rw [sz]; simp)]
  refine wpAny_bind (wpAny_dictEpoch g1 d1 (wpAny_bind ?_))
  rw [Std.Legacy.Range.forIn_eq_forIn_range']
  simp only [Std.Legacy.Range.size, Nat.sub_zero, Nat.add_sub_cancel, Nat.div_one]
  refine wpAny_forIn_list _ (fun rest t s' => s' = s ∧ t = (none, ()) ∧ ∃ i, rest = List.range' i (e1.size - i) ∧ i ≤ e1.size) _ ?_ ?_ _ _ ⟨rfl, rfl, 0, by simp, Nat.zero_le _⟩
  · rintro x rest t s' ⟨rfl, rfl, i, hr, hi⟩
    have lt : i < e1.size := Nat.lt_of_not_le fun z => by rw [Nat.sub_eq_zero_of_le z] at hr; simp at hr
    have es : e1.size - i = (e1.size - (i + 1)) + 1 := by omega
    rw [es, List.range'_succ] at hr
    injection hr with hx hrest
    subst hx
    refine wpAny_bind (wpAny_dictEntries g1 d1 ?_)
    rw [Array.getElem?_eq_getElem lt]
    have lt' : x < ps.length := by omega
    have gp : ps[x]? = some ps[x] := List.getElem?_eq_getElem lt'
    obtain ⟨hkey, hval⟩ := r1.get? (i := x) (e := e1[x]) (k := ps[x].1) (v := ps[x].2) (by rw [Array.getElem?_toList]; exact Array.getElem?_eq_getElem lt) gp
    obtain ⟨k', hk', hh⟩ := k1 e1[x] (Array.getElem_mem lt)
    have ek : k' = ps[x].1 := kd.inj _ _ _ hk' hkey
    subst ek
    obtain ⟨y, hy, heq⟩ := hk ps[x].1 ps[x].2 (List.getElem_mem lt')
    show wpAny _ _ (holding [e1[x].key, e1[x].val] _ >>= _) _ _ _
    rw [hh]
    refine wpAny_bind (wpAny_holding (wpAny_bind (wpAny_dictFind_of hkey g2 d2 k2 ?_)))
    have fy := (look ps[x].1).trans hy
    rw [findBy_of_findIdx?] at fy
    cases hj : e2.findIdx? fun e => kd.is ps[x].1 e.key with
    | none => rw [hj] at fy; cases fy
    | some j =>
      obtain ⟨jl, _, _⟩ := Array.findIdx?_eq_some_iff_getElem.mp hj
      have ev : e2[j].val = y := by
        rw [hj] at fy
        simpa [Array.getElem?_eq_getElem jl] using fy
      refine wpAny_bind (wpAny_dictEntries g2 d2 ?_)
      rw [Array.getElem?_eq_getElem jl]
      rw [← ev, ← hval] at heq
      refine wpAny_holding (heq _ _ ?_)
      show wpAny _ _ (if (!true) = true then _ else _) _ _ _
      rw [if_neg (by decide)]
      refine wpAny_bind (wpAny_dictEpoch g1 d1 ?_)
      rw [if_neg (by simp)]
      exact wpAny_pure ⟨rfl, rfl, x + 1, hrest, lt⟩
  · rintro t s' ⟨rfl, rfl, _⟩
    exact wpAny_pure h
theorem dict_slot2 {f : String} {p q : Addr} {qs : List (κ × Value)} {R : Value × Value → Shared → Prop} (tp : s.TypeIs (.ref p) "dict") (h : R (.ref p, .ref q) s) : wpAny (model P w) A (Builtin.Dict.dictSlotArgs f ⟨[.ref p, .ref q], []⟩) R E s := by
  unfold Builtin.Dict.dictSlotArgs
  refine wpAny_bind (wpAny_notOrdered_dict tp ?_)
  exact wpAny_pure h
theorem dict_eq_true {p q : Addr} {ps qs : List (κ × Value)} {Q : Value → Shared → Prop} (np : (p == sysModules) = false) (nq : (q == sysModules) = false) (dp : s.heap.DictOf kd p ps) (dq : s.heap.DictOf kd q qs) (hu : A.units < cLine)
    (hl : ps.length = qs.length) (hk : Likes P w A.in1 s qs ps) (h : Q (.bool true) s) : wpAny (model P w) A (compareOp .Eq (.ref p) (.ref q)) Q E s := by
  refine wpAny_richCompare_same_room (op := .Eq) dp.typeIs dq.typeIs PySem.F.slot_dict_eq (wpAny_call_entry PySem.F.slot_dict_eq dp.typeIs PySem.F.entry_dict_eq ?_ (PySem.F.args_dict_eq_2 _ _)) hu
  show wpAny _ _ (Builtin.Dict.dictSlotArgs "__eq__" ⟨[.ref p, .ref q], []⟩ >>= _) _ _ s
  refine wpAny_bind (dict_slot2 (qs := qs) dp.typeIs (wpAny_bind (wpAny_isInstance (T := "dict") dq.typeIs PySem.F.sub_dict_dict ?_)))
  simp only [Bool.not_true, Bool.false_eq_true, if_false]
  exact wpAny_bind (wpAny_pure (wpAny_bind (wpAny_pure (wpAny_bind (pairs_alike np nq dp dq hl hk (wpAny_pure ⟨_, rfl, (fun x => nomatch x), h⟩))))))
theorem dict_ne_false {p q : Addr} {ps qs : List (κ × Value)} {Q : Value → Shared → Prop} (np : (p == sysModules) = false) (nq : (q == sysModules) = false) (dp : s.heap.DictOf kd p ps) (dq : s.heap.DictOf kd q qs) (hu : A.units < cLine)
    (hl : ps.length = qs.length) (hk : Likes P w A.in1 s qs ps) (h : Q (.bool false) s) : wpAny (model P w) A (compareOp .NotEq (.ref p) (.ref q)) Q E s := by
  refine wpAny_richCompare_same_room (op := .NotEq) dp.typeIs dq.typeIs PySem.F.slot_dict_ne (wpAny_call_entry PySem.F.slot_dict_ne dp.typeIs PySem.F.entry_dict_ne ?_ (PySem.F.args_dict_ne_2 _ _)) hu
  show wpAny _ _ (Builtin.Dict.dictSlotArgs "__ne__" ⟨[.ref p, .ref q], []⟩ >>= _) _ _ s
  refine wpAny_bind (dict_slot2 (qs := qs) dp.typeIs (wpAny_bind (wpAny_isInstance (T := "dict") dq.typeIs PySem.F.sub_dict_dict ?_)))
  simp only [Bool.not_true, Bool.false_eq_true, if_false]
  exact wpAny_bind (wpAny_pure (wpAny_bind (wpAny_pure (wpAny_bind (pairs_alike np nq dp dq hl hk (wpAny_pure ⟨_, rfl, (fun x => nomatch x), h⟩))))))
end
end L2

set_option Elab.async false
set_option linter.all false
set_option maxRecDepth 100000
namespace L2
open PySem PySem.Spec PyProof.Rows PySem.SeqAt
def lookD (es : List (Key × D)) (k : Key) : Option D := (es.find? fun e => decide (e.1 = k)).map (·.2)
/-- equal as Python says it: dicts in any order -/
inductive DEq : D → D → Prop
  | same {d : D} : d.flat = true → DEq d d
  | dct {es fs : List (Key × D)} (f : Key → D) : es.length = fs.length → (∀ k d, (k, d) ∈ es → lookD fs k = some (f k)) → (∀ k d, (k, d) ∈ es → DEq d (f k)) → DEq (.dct es) (.dct fs)
theorem D.depD_mem : ∀ {es : List (Key × D)} {k : Key} {d : D}, (k, d) ∈ es → d.dep ≤ D.depD es
  | [], _, _, h => by simp at h
  | (k0, d0) :: r, k, d, h => by
    simp only [D.depD]
    rcases List.mem_cons.mp h with e | e
    · cases e; omega
    · have := D.depD_mem e; omega
section
variable {K : PySem.W.Frag} {X : Cx} {pins : List (Addr × Obj)} {σ : St} {H : Hp} {s : Shared}
theorem RepD.mem : ∀ {xs : List (Key × V)} {ds : List (Key × D)} {k : Key} {x : V}, RepD K H xs ds → (k, x) ∈ xs → ∃ d, (k, d) ∈ ds ∧ Rep K H x d
  | _, _, _, _, .nil, h => by simp at h
  | _, _, _, _, .cons h0 r, h => by
    rcases List.mem_cons.mp h with e | e
    · cases e; exact ⟨_, List.mem_cons_self, h0⟩
    · obtain ⟨d, a, b⟩ := r.mem e; exact ⟨d, List.mem_cons_of_mem _ a, b⟩
theorem KV.mem {κ : Type} : ∀ {xs : List (κ × V)} {vs : List (κ × Value)} {k : κ} {u : Value}, KV xs vs → (k, u) ∈ vs → ∃ x, (k, x) ∈ xs ∧ RelV x u
  | _, _, _, _, .nil, h => by simp at h
  | _, _, _, _, .cons (a := a) h0 r, h => by
    rcases List.mem_cons.mp h with e | e
    · obtain ⟨e1, e2⟩ := h0
      subst e
      exact ⟨a.2, by rw [show a = (a.1, a.2) from rfl, e1]; exact List.mem_cons_self, e2⟩
    · obtain ⟨d, p, q⟩ := KV.mem (xs := _) (vs := _) r e; exact ⟨d, List.mem_cons_of_mem _ p, q⟩
theorem rep_deq (I : Inv X pins σ H s) : ∀ {d d' : D}, DEq d d' → ∀ {x y : V} {u v : Value} {A : Around}, A.units + d.dep < cLine → Rep X.K H x d → Rep X.K H y d' → RelV x u → RelV y v →
    EqIn X.prog X.w A s u v true ∧ (∀ a b, u = .ref a → v = .ref b → ∀ (E : Value → Shared → Prop) (Q : Value → Shared → Prop), (Q (.bool true) s → wpAny (model X.prog X.w) A (compareOp .Eq u v) Q E s) ∧ (Q (.bool false) s → wpAny (model X.prog X.w) A (compareOp .NotEq u v) Q E s)) := by
  intro d d' h
  induction h with
  | same f =>
    intro x y u v A hu r1 r2 e1 e2
    obtain ⟨a1, a2⟩ := rep_eqAt I _ f hu r1 r2 e1 e2
    exact ⟨EqIn.of a1, fun a b h1 h2 E Q => ⟨fun q => (a2 a b h1 h2).1 _ _ _ _ q, fun q => (a2 a b h1 h2).2 _ _ _ _ q⟩⟩
  | @dct es fs f hl hlook hd ih =>
    intro x y u v A hu r1 r2 e1 e2
    cases r1 with
    | dct q1 p1 =>
    cases r2 with
    | dct q2 p2 =>
    cases e1; cases e2
    rename_i a1 k1 a2 k2
    obtain ⟨z1, m1, v1, w1, o1⟩ := dk_rd I.hok q1
    obtain ⟨z2, m2, v2, w2, o2⟩ := dk_rd I.hok q2
    have hu' : A.units + (D.depD es + 1) < cLine := hu
    have len : v1.length = v2.length := by
      have := p1.length; have := p2.length; have := Paired.length w1; have := Paired.length w2; omega
    have lk : Likes X.prog X.w A.in1 s v2 v1 := fun k u hm => by
      obtain ⟨x, hx, rx⟩ := KV.mem w1 hm
      obtain ⟨d, hd1, rd⟩ := p1.mem hx
      have hf := hlook k d hd1
      obtain ⟨g1, _⟩ := p2.get (k := k)
      obtain ⟨y, hy, ry⟩ := g1 (f k) hf
      have := KV.val w2 k
      rw [hy] at this
      obtain ⟨u2, e2, r2⟩ := RelO.some_of this
      refine ⟨u2, e2, (ih k d hd1 (A := A.in1) ?_ rd ry rx r2).1⟩
      have := D.depD_mem hd1
      show A.units + 1 + _ < cLine
      omega
    have key : ∀ (E : Value → Shared → Prop) (Q : Value → Shared → Prop), (Q (.bool true) s → wpAny (model X.prog X.w) A (compareOp .Eq (.ref a1) (.ref a2)) Q E s) ∧ (Q (.bool false) s → wpAny (model X.prog X.w) A (compareOp .NotEq (.ref a1) (.ref a2)) Q E s) := fun E Q =>
      ⟨fun q => dict_eq_true m1 m2 o1 o2 (by omega) len lk q, fun q => dict_ne_false m1 m2 o1 o2 (by omega) len lk q⟩
    refine ⟨fun E Q q => ?_, fun a b h1 h2 => by cases h1; cases h2; exact key⟩
    by_cases e : a1 = a2
    · subst e
      exact EqAt.same _ _ _ _ _ q
    · unfold eqBool
      refine wpAny_holding (wpAny_ite_split (fun hab => absurd (by have := eq_of_beq hab; injection this) e) (fun _ => ?_))
      exact wpAny_bind ((key E _).1 (wpAny_truthy_bool q))
end
section
variable {X : Cx}
/-- == of two things that stand for equal data -/
theorem op_eqD (hu : X.A.units + 8 < cLine) : OpR X (compareOp .Eq) (fun x y H Q => ∃ a b d d', x = .ref a ∧ y = .ref b ∧ Rep X.K H x d ∧ Rep X.K H y d' ∧ DEq d d' ∧ d.dep ≤ 8 ∧ Q (.bl true) H) := by
  rintro pins s σ H x y v u Q I rx ry ⟨a, b, d, d', rfl, rfl, r1, r2, hd, hl, q⟩
  have := rep_deq I hd (A := X.A) (by omega) r1 r2 rx ry
  cases rx; cases ry
  exact (this.2 a b rfl rfl X.xe _).1 ⟨.bl true, H, I, rfl, q⟩
theorem op_neD (hu : X.A.units + 8 < cLine) : OpR X (compareOp .NotEq) (fun x y H Q => ∃ a b d d', x = .ref a ∧ y = .ref b ∧ Rep X.K H x d ∧ Rep X.K H y d' ∧ DEq d d' ∧ d.dep ≤ 8 ∧ Q (.bl false) H) := by
  rintro pins s σ H x y v u Q I rx ry ⟨a, b, d, d', rfl, rfl, r1, r2, hd, hl, q⟩
  have := rep_deq I hd (A := X.A) (by omega) r1 r2 rx ry
  cases rx; cases ry
  exact (this.2 a b rfl rfl X.xe _).2 ⟨.bl false, H, I, rfl, q⟩
end
end L2

set_option Elab.async false
set_option linter.all false
set_option maxRecDepth 100000
/-! WALKS over dicts (own work) -/
namespace L2
open PySem PySem.Spec PyProof.Rows

section
variable {X : Cx} {pins : List (Addr × Obj)} {σ : St} {H : Hp} {s : Shared} {a : Addr} {kvs : List (Key × V)}
/-- a dict is held fast -/
theorem Inv.freeze (I : Inv X pins σ H s) (h : H a = some (.dK kvs)) : ∃ o : Obj, s.heap.get? a = some o ∧ Inv X pins σ (upd H a (.frz o (.dK kvs))) s := by
  obtain ⟨z, m, vs, rel, o, es, ep, ho, r⟩ := id (I.hok a _ h)
  have ne : ∀ {b : Addr} {u : Option HO}, H b = u → u ≠ some (.dK kvs) → b ≠ a := fun e n q => n (by rw [← e, q, h])
  refine ⟨o, ho, I.ok, I.os, I.bare, ⟨I.base.keep, I.base.slot, fun b ob e n hx => ?_, I.base.there, fun b xs e => ?_, fun b ob u e => ?_, fun b ps e => ?_⟩, I.loc, I.cell, ?_, fun x c e => ?_, fun p hp => ?_, fun b u e => ?_, I.len⟩
  · have := I.base.free b ob e n hx; rw [upd_ne (ne this (by simp))]; exact this
  · have := I.base.tups b xs e; rw [upd_ne (ne this (by simp))]; exact this
  · have := I.base.frzs b ob u e; rw [upd_ne (ne this (by simp))]; exact this
  · obtain ⟨mo, this⟩ := I.base.tbls b ps e; exact ⟨mo, by rw [upd_ne (ne this (by simp))]; exact this⟩
  · rw [upd_ne (ne I.free (by simp))]; exact I.free
  · have := I.freeC x c e; rw [upd_ne (ne this (by simp))]; exact this
  · obtain ⟨e, n, r⟩ := I.pin p hp; exact ⟨e, by rw [upd_ne (ne n (by simp))]; exact n, r⟩
  · have own : ∀ {c d : Addr}, H c = some (.own d) → upd H a (.frz o (.dK kvs)) c = some (.own d) := fun q => by rw [upd_ne (ne q (by simp))]; exact q
    have tup : ∀ {c : Addr} {xs : List V}, H c = some (.tup xs) → upd H a (.frz o (.dK kvs)) c = some (.tup xs) := fun q => by rw [upd_ne (ne q (by simp))]; exact q
    by_cases hb : b = a
    · subst hb
      rw [upd_same] at e
      cases e
      exact ⟨ho, (I.hok b _ h).stay (fun _ _ _ q => q) (fun c q => own q) (fun c xs q => tup q)⟩
    · rw [upd_ne hb] at e
      exact (I.hok b u e).stay (fun _ _ _ q => q) (fun c q => own q) (fun c xs q => tup q)
/-- .. and let go -/
theorem Inv.thaw {o : Obj} (I : Inv X pins σ H s) (h : H a = some (.frz o (.dK kvs))) (h0 : ∀ o u, X.H₀ a ≠ some (.frz o u)) : Inv X pins σ (upd H a (.dK kvs)) s := by
  have ne : ∀ {b : Addr} {u : Option HO}, H b = u → u ≠ some (.frz o (.dK kvs)) → b ≠ a := fun e n q => n (by rw [← e, q, h])
  refine ⟨I.ok, I.os, I.bare, ⟨I.base.keep, I.base.slot, fun b ob e n hx => ?_, I.base.there, fun b xs e => ?_, fun b ob u e => ?_, fun b ps e => ?_⟩, I.loc, I.cell, ?_, fun x c e => ?_, fun p hp => ?_, fun b u e => ?_, I.len⟩
  · have := I.base.free b ob e n hx; rw [upd_ne (ne this (by simp))]; exact this
  · have := I.base.tups b xs e; rw [upd_ne (ne this (by simp))]; exact this
  · have := I.base.frzs b ob u e
    rw [upd_ne (fun (q : b = a) => h0 ob u (by rw [← q]; exact e))]; exact this
  · obtain ⟨mo, this⟩ := I.base.tbls b ps e; exact ⟨mo, by rw [upd_ne (ne this (by simp))]; exact this⟩
  · rw [upd_ne (ne I.free (by simp))]; exact I.free
  · have := I.freeC x c e; rw [upd_ne (ne this (by simp))]; exact this
  · obtain ⟨e, n, r⟩ := I.pin p hp; exact ⟨e, by rw [upd_ne (ne n (by simp))]; exact n, r⟩
  · have own : ∀ {c d : Addr}, H c = some (.own d) → upd H a (.dK kvs) c = some (.own d) := fun q => by rw [upd_ne (ne q (by simp))]; exact q
    have tup : ∀ {c : Addr} {xs : List V}, H c = some (.tup xs) → upd H a (.dK kvs) c = some (.tup xs) := fun q => by rw [upd_ne (ne q (by simp))]; exact q
    by_cases hb : b = a
    · subst hb
      rw [upd_same] at e
      cases e
      exact (I.hok b _ h).2.stay (fun _ _ _ q => q) (fun c q => own q) (fun c xs q => tup q)
    · rw [upd_ne hb] at e
      exact (I.hok b u e).stay (fun _ _ _ q => q) (fun c q => own q) (fun c xs q => tup q)
theorem kV_of {k : Key} {v : Value} (h : keyIs k v = true) : RelV (kV k) v := by
  rcases keyIs_shape h with ⟨i, t, rfl, rfl⟩ | ⟨x, t, rfl, rfl⟩
  · exact ⟨t, rfl⟩
  · exact ⟨t, rfl⟩
theorem frz_at {o : Obj} (I : Inv X pins σ H s) (h : H a = some (.frz o (.dK kvs))) : (a == sysModules) = false ∧ ∃ vs ep, KV kvs vs ∧ s.heap.DictAt (mixKind X.prog X.w) a vs ep ∧ ∃ es, o.data = .dict es ep := by
  obtain ⟨ho, z, m, vs, rel, o', es, ep, ho', r⟩ := id (I.hok a _ h)
  rw [ho] at ho'
  cases ho'
  exact ⟨m, vs, ep, rel, ⟨o, es, ho, r⟩, es, r.2.1⟩
theorem KV.get {κ : Type} : ∀ {xs : List (κ × V)} {vs : List (κ × Value)} {i : Nat} {k : κ} {v : V}, KV xs vs → xs[i]? = some (k, v) → ∃ u, vs[i]? = some (k, u) ∧ RelV v u
  | _, _, _, _, _, .nil, e => by simp at e
  | _, _, 0, k, v, .cons (b := b) h _, e => by
    simp at e
    subst e
    exact ⟨b.2, by have := h.1; simp at this; subst this; rfl, h.2⟩
  | _, _, i + 1, k, v, .cons _ r, e => by
    obtain ⟨u, p, q⟩ := KV.get (i := i) (k := k) (v := v) r (by simpa using e)
    exact ⟨u, by simpa using p, q⟩
end
/-- the keys of the dict at a, which is held fast -/
def Itd (a : Addr) (o : Obj) (kvs : List (Key × V)) : It :=
  ⟨fun i H => H a = some (.frz o (.dK kvs)) ∧ i < kvs.length, fun i H x H' => H' = H ∧ ∃ k v, kvs[i]? = some (k, v) ∧ x = kV k, fun i H => H a = some (.frz o (.dK kvs)) ∧ kvs.length ≤ i⟩
/-- its values -/
def Itv (a : Addr) (o : Obj) (kvs : List (Key × V)) : It :=
  ⟨fun i H => H a = some (.frz o (.dK kvs)) ∧ i < kvs.length, fun i H x H' => H' = H ∧ ∃ k, kvs[i]? = some (k, x), fun i H => H a = some (.frz o (.dK kvs)) ∧ kvs.length ≤ i⟩
theorem keyiter_nocell {h : Heap} {it d : Addr} {i n ep : Nat} (x : h.IsKeyIter it d i n ep) : ∃ o, h.get? it = some o ∧ ∀ v, o.data ≠ .cell v := by
  obtain ⟨o, e, c, q⟩ := x
  exact ⟨o, e, fun v z => by rw [q] at z; cases z⟩
theorem valiter_nocell {h : Heap} {it d : Addr} {i n ep : Nat} (x : h.IsValIter it d i n ep) : ∃ o, h.get? it = some o ∧ ∀ v, o.data ≠ .cell v := by
  obtain ⟨o, e, c, q⟩ := x
  exact ⟨o, e, fun v z => by rw [q] at z; cases z⟩
theorem turn_keys {P : Program} {w : World} {K : PySem.W.Frag} {tg : Expr} {o : Obj} {es : Array DictEntry} {ep : Nat} (a it : Addr) (kvs : List (Key × V)) (ho : o.data = .dict es ep) : Turn P w K tg (Itd a o kvs) [it] it (fun i h => h.IsKeyIter it a i kvs.length ep) where
  mem := by simp
  obj := fun i h st b hb => by
    have e : b = it := by simpa using hb
    subst e
    exact keyiter_nocell st
  keep := fun i h h' st k => st.at fun o e => k it (by simp) o e
  item := by
    intro X hP hw hK hc i pins s σ H E I hf st hg
    subst hP hw hK
    obtain ⟨hfz, hi⟩ := hg
    obtain ⟨m, vs, ep', rel, da, es', ho'⟩ := frz_at I hfz
    rw [ho] at ho'; cases ho'
    have hl := Paired.length rel
    obtain ⟨⟨k, v⟩, hx⟩ : ∃ p, kvs[i]? = some p := ⟨kvs[i], by simp [hi]⟩
    obtain ⟨u, hu, ru⟩ := KV.get rel hx
    obtain ⟨f0, f1, f2, f3, f4, f5⟩ := hf it (by simp)
    rw [hl] at st
    refine wpAny_pyNext_dict_item st da hu fun key h' hkey st' sb => ?_
    have I1 : Inv X pins σ H { s with heap := h' } := I.turned (t' := s.toks) (fun b o hb e => (sb.2 b hb).trans e) f0 f1 f3 f4 f5
    obtain ⟨o2, e2, c2, d2⟩ := id st'
    rw [← hl] at st'
    exact ⟨key, rfl, go_of (s := { s with heap := h' }) e2 c2 d2 (by decide) ⟨kV k, H, I1, kV_of hkey, ⟨rfl, k, v, hx, rfl⟩, st', fun b hb => (hf b hb).1⟩⟩
  done := by
    intro X hP hw hK hc i pins s σ H E I hf st hg
    subst hP hw hK
    obtain ⟨hfz, hi⟩ := hg
    obtain ⟨m, vs, ep', rel, da, es', ho'⟩ := frz_at I hfz
    rw [ho] at ho'; cases ho'
    have hl := Paired.length rel
    obtain ⟨f0, f1, f2, f3, f4, f5⟩ := hf it (by simp)
    rw [hl] at st
    exact wpAny_pyNext_dict_end (I.ok.hd hc) st da (by simp; omega) fun h' eb => ⟨rfl, I.turned (t' := s.toks) (fun b o hb e => eb b o hb e) f0 f1 f3 f4 f5⟩
  self := fun _ _ _ _ _ st h => wpAny_pyIter_keyiter st h
theorem turn_vals {P : Program} {w : World} {K : PySem.W.Frag} {tg : Expr} {o : Obj} {es : Array DictEntry} {ep : Nat} (a it : Addr) (kvs : List (Key × V)) (ho : o.data = .dict es ep) : Turn P w K tg (Itv a o kvs) [it] it (fun i h => h.IsValIter it a i kvs.length ep) where
  mem := by simp
  obj := fun i h st b hb => by
    have e : b = it := by simpa using hb
    subst e
    exact valiter_nocell st
  keep := fun i h h' st k => st.at fun o e => k it (by simp) o e
  item := by
    intro X hP hw hK hc i pins s σ H E I hf st hg
    subst hP hw hK
    obtain ⟨hfz, hi⟩ := hg
    obtain ⟨m, vs, ep', rel, da, es', ho'⟩ := frz_at I hfz
    rw [ho] at ho'; cases ho'
    have hl := Paired.length rel
    obtain ⟨⟨k, v⟩, hx⟩ : ∃ p, kvs[i]? = some p := ⟨kvs[i], by simp [hi]⟩
    obtain ⟨u, hu, ru⟩ := KV.get rel hx
    obtain ⟨f0, f1, f2, f3, f4, f5⟩ := hf it (by simp)
    rw [hl] at st
    refine wpAny_pyNext_values_item st da hu fun h' st' sb => ?_
    have I1 : Inv X pins σ H { s with heap := h' } := I.turned (t' := s.toks) (fun b o hb e => (sb.2 b hb).trans e) f0 f1 f3 f4 f5
    obtain ⟨o2, e2, c2, d2⟩ := id st'
    rw [← hl] at st'
    exact ⟨u, rfl, go_of (s := { s with heap := h' }) e2 c2 d2 (by decide) ⟨v, H, I1, ru, ⟨rfl, k, hx⟩, st', fun b hb => (hf b hb).1⟩⟩
  done := by
    intro X hP hw hK hc i pins s σ H E I hf st hg
    subst hP hw hK
    obtain ⟨hfz, hi⟩ := hg
    obtain ⟨m, vs, ep', rel, da, es', ho'⟩ := frz_at I hfz
    rw [ho] at ho'; cases ho'
    have hl := Paired.length rel
    obtain ⟨f0, f1, f2, f3, f4, f5⟩ := hf it (by simp)
    rw [hl] at st
    exact wpAny_pyNext_values_end (I.ok.hd hc) st da (by simp; omega) fun h' eb => ⟨rfl, I.turned (t' := s.toks) (fun b o hb e => eb b o hb e) f0 f1 f3 f4 f5⟩
  self := fun _ _ _ _ _ st h => wpAny_pyIter_valiter st h

/-- H2 is H1 with the dict at a held fast -/
def Fzn (a : Addr) (o : Obj) (kvs : List (Key × V)) (H1 H2 : Hp) : Prop := H2 a = some (.frz o (.dK kvs)) ∧ (H2 = H1 ∨ (H1 a = some (.dK kvs) ∧ H2 = upd H1 a (.frz o (.dK kvs))))
def iDict (tl : TE) : TI := fun σ H R => tl σ H fun x H1 => ∃ a kvs, x = .ref a ∧ Rd H1 a (.dK kvs) ∧ ∀ o H2, Fzn a o kvs H1 H2 → R (Itd a o kvs) H2
section
variable {X : Cx} {tg : Expr}
theorem Inv.fzn {pins : List (Addr × Obj)} {σ : St} {H : Hp} {s : Shared} {a : Addr} {kvs : List (Key × V)} (I : Inv X pins σ H s) (h : Rd H a (.dK kvs)) : ∃ o H2, Fzn a o kvs H H2 ∧ Inv X pins σ H2 s := by
  rcases h with h | ⟨o, h⟩
  · obtain ⟨o, _, I2⟩ := I.freeze h
    exact ⟨o, _, ⟨upd_same, .inr ⟨h, rfl⟩⟩, I2⟩
  · exact ⟨o, H, ⟨h, .inl rfl⟩, I⟩
end

/-- what an end must give so that the dict, let go, is as wished -/
def Thw (a : Addr) (o : Obj) (kvs : List (Key × V)) (H1 H H' : Hp) : Prop := (H1 a = some (.dK kvs) ∧ H' = upd H a (.dK kvs)) ∨ (H1 a ≠ some (.dK kvs) ∧ H' = H)
def thawE (a : Addr) (o : Obj) (kvs : List (Key × V)) (H1 : Hp) (D : Ends) : Ends where
  nx := fun σ H => H a = some (.frz o (.dK kvs)) ∧ ∀ H', Thw a o kvs H1 H H' → D.nx σ H'
  rt := fun v H => H a = some (.frz o (.dK kvs)) ∧ ∀ H', Thw a o kvs H1 H H' → D.rt v H'
  bk := fun _ _ => False
  ct := fun _ _ => False
/-- a loop's condition, from its iterator on -/
def LoopVC (J : It) (g : TG) (tb : TS) (D : Ends) (σ : St) (H1 : Hp) : Prop := ∃ W : Nat → Nat → St → Hp → Prop, (∃ m, W 0 m σ H1) ∧ ∀ i m σ H, W i m σ H →
  (J.stop i H ∧ D.nx σ H) ∨ (J.go i H ∧ ∃ N : St → Hp → Prop, (∀ σ' H', N σ' H' → ∃ m', m' < m ∧ W (i + 1) m' σ' H') ∧ ∀ x H', J.yld i H x H' → g x σ H' fun σ2 H2 => tb { D with nx := N, ct := N, bk := D.nx } σ2 H2)
/-- for k in d -/
def tForD (te : TE) (g : TG) (tb : TS) : TS := fun D σ H => te σ H fun x H1 => ∃ a kvs, x = .ref a ∧ Rd H1 a (.dK kvs) ∧ ∀ o H2, Fzn a o kvs H1 H2 → LoopVC (Itd a o kvs) g tb (thawE a o kvs H1 D) σ H2
section
variable {X : Cx} {tg : Expr}
theorem SP.thaw {pins : List (Addr × Obj)} {D : Ends} {f : Flow} {s' : Shared} {a : Addr} {o : Obj} {kvs : List (Key × V)} {H1 : Hp} (h0 : H1 a = some (.dK kvs) → ∀ o u, X.H₀ a ≠ some (.frz o u)) (h : SP X pins (thawE a o kvs H1 D) f s') : SP X pins D f s' := by
  have key : ∀ {σ : St} {H : Hp}, Inv X pins σ H s' → H a = some (.frz o (.dK kvs)) → ∃ H', Inv X pins σ H' s' ∧ Thw a o kvs H1 H H' := fun {σ H} I e => by
    by_cases hc : H1 a = some (.dK kvs)
    · exact ⟨_, I.thaw e (h0 hc), .inl ⟨hc, rfl⟩⟩
    · exact ⟨H, I, .inr ⟨hc, rfl⟩⟩
  cases f with
  | next =>
    obtain ⟨σ', H', I, e, q⟩ := h
    obtain ⟨H2, I2, t⟩ := key I e
    exact ⟨σ', H2, I2, q H2 t⟩
  | ret v =>
    obtain ⟨x, σ', H', I, r, e, q⟩ := h
    obtain ⟨H2, I2, t⟩ := key I e
    exact ⟨x, σ', H2, I2, r, q H2 t⟩
  | brk => obtain ⟨_, _, _, q⟩ := h; exact q.elim
  | cont => obtain ⟨_, _, _, q⟩ := h; exact q.elim
theorem for_gen {iter : Expr} {body : List Stmt} {g : TG} {tb : TS} {pos : Pos} {pins : List (Addr × Obj)} {s : Shared} {σ : St} {D : Ends} (hp : PassesOwn (model X.prog X.w) X.A X.env X.xe) (hc : X.calm = true) (hg : PG X tg g) (hb : PSs X body tb)
    (h : wpAny (model X.prog X.w) X.A (eval iter X.env) (fun v s1 => wpAny (model X.prog X.w) X.A (pyIter v) (PIE X pins σ tg fun J H1 => ∃ D' : Ends, (∀ f s', SP X pins D' f s' → SP X pins D f s') ∧ LoopVC J g tb D' σ H1) X.xe s1) X.xe s)
    (hs : ∀ x, foldedSetIterable iter X.env x = pure x := by intro _; rfl) : wpAny (model X.prog X.w) X.A (exec (.For tg iter body [] pos) X.env) (SP X pins D) X.xe s := by
  refine wpAny_For (thn h fun v s1 h1 => thn h1 fun itv s2 h2 => ?_) hs
  obtain ⟨it, fp, tn, J, H2, e, I2, T, st2, f2, D', hD, W, ⟨m0, w0⟩, turn⟩ := h2
  subst e
  refine codeAny_mono (R := fun r s' => match r with | Except.ok f => SP X pins D' f s' | Except.error e => cameBackBy (model X.prog X.w) X.A X.env X.xe e s') ?_ (fun r s' q => by
    cases r with
    | ok f => exact hD f s' q
    | error e => exact q)
  have stat : ∀ {H' : Hp}, (∀ b ∈ fp, H' b = none) → ∀ b ∈ fp, FpOk X pins H' b := fun hn b hb => ⟨hn b hb, (f2 b hb).2⟩
  refine codeAny_forLoop_any (fun n s' => ∃ i σ' H', Inv X pins σ' H' s' ∧ tn i s'.heap ∧ (∀ b ∈ fp, H' b = none) ∧ W i n σ' H') ?_ m0 ⟨0, σ, H2, I2, st2, fun b hb => (f2 b hb).1, w0⟩
  rintro n s3 ⟨i, σ3, H3, I3, st3, fr3, w3⟩
  rcases turn i n σ3 H3 w3 with ⟨stop, qn⟩ | ⟨go, N, hN, step⟩
  · refine wpAny_passesOwn hp (thn (T.done X rfl rfl rfl hc i pins s3 σ3 H3 X.xe I3 (stat fr3) st3 stop) fun r s4 ⟨hr, I4⟩ => ?_)
    subst hr
    exact wpAny_execs_nil ⟨σ3, H3, I4, qn⟩
  · refine wpAny_passesOwn hp (thn (T.item X rfl rfl rfl hc i pins s3 σ3 H3 X.xe I3 (stat fr3) st3 go) fun r s4 ⟨u, hr, h4⟩ => ?_)
    subst hr
    refine wpAny_passesOwn hp (thn h4 fun _ s5 ⟨x, H5, I5, r5, y5, st5, fr5⟩ => ?_)
    have I5' := I5.pinned (stat fr5) (T.obj _ _ st5)
    refine wpAny_passesOwn hp (thn (hg _ s5 σ3 H5 x u _ I5' r5 (step x H5 y5)) fun _ s6 ⟨σ6, H6, I6, q6⟩ => ?_)
    refine wpAny_passesOwn hp (thn (hb _ s6 σ6 H6 _ I6 q6) fun f s7 q7 => ?_)
    have again : ∀ {σ7 : St} {H7 : Hp}, Inv X (pins ++ pinsAt fp s5.heap) σ7 H7 s7 → N σ7 H7 → ∃ m, m < n ∧ ∃ i σ' H', Inv X pins σ' H' s7 ∧ tn i s7.heap ∧ (∀ b ∈ fp, H' b = none) ∧ W i m σ' H' := fun {σ7 H7} I7 n7 => by
      obtain ⟨m', hm, w7⟩ := hN σ7 H7 n7
      refine ⟨m', hm, i + 1, σ7, H7, I7.unpinned, T.keep _ _ _ st5 fun b hb o e => (I7.pin (b, o) (List.mem_append_right _ (List.mem_append_right _ (mem_pinsAt hb e)))).1, fun b hb => ?_, w7⟩
      obtain ⟨o, e, d⟩ := T.obj _ _ st5 b hb
      exact (I7.pin (b, o) (List.mem_append_right _ (List.mem_append_right _ (mem_pinsAt hb e)))).2.1
    cases f with
    | next => obtain ⟨σ7, H7, I7, n7⟩ := q7; exact again I7 n7
    | cont => obtain ⟨σ7, H7, I7, n7⟩ := q7; exact again I7 n7
    | brk => obtain ⟨σ7, H7, I7, q7⟩ := q7; exact ⟨σ7, H7, I7.unpinned, q7⟩
    | ret v => obtain ⟨x7, σ7, H7, I7, r7, q7⟩ := q7; exact ⟨x7, σ7, H7, I7.unpinned, r7, q7⟩
/-- the iterator of a dict's keys is made -/
theorem keys_made {pins : List (Addr × Obj)} {s1 : Shared} {σ : St} {H1 : Hp} {a : Addr} {kvs : List (Key × V)} {R : It → Hp → Prop} {E : Value → Shared → Prop} (I1 : Inv X pins σ H1 s1) (hq : Rd H1 a (.dK kvs))
    (q : ∀ o H2, Fzn a o kvs H1 H2 → (H1 a = some (.dK kvs) → ∀ o u, X.H₀ a ≠ some (.frz o u)) → R (Itd a o kvs) H2) : wpAny (model X.prog X.w) X.A (pyIter (.ref a)) (PIE X pins σ tg R) E s1 := by
  obtain ⟨o, H2, fz, I2⟩ := I1.fzn hq
  obtain ⟨m, vs, ep, rel, da, es, ho⟩ := frz_at I2 fz.1
  have hlen := Paired.length rel
  refine wpAny_pyIter_dict m da ?_
  rw [← hlen]
  refine ⟨s1.heap.objs.size, [s1.heap.objs.size], _, _, H2, rfl, I2.kept (t' := s1.toks) fun b o e => Heap.get?_push_of_some _ e, turn_keys a _ kvs ho, ⟨_, Heap.get?_push_size _ rfl, rfl, rfl⟩, fun b hb => ?_, q o H2 fz (fun hd o u z => ?_)⟩
  · have e : b = s1.heap.objs.size := by simpa using hb
    subst e
    exact I2.fpOk (Nat.le_refl _) (I2.hok.fresh (Nat.le_refl _))
  · have := I1.base.frzs a o u z
    rw [hd] at this
    cases this
theorem ps_forD {iter : Expr} {body : List Stmt} {te : TE} {g : TG} {tb : TS} {pos : Pos} (hp : PassesOwn (model X.prog X.w) X.A X.env X.xe) (hc : X.calm = true) (hi : PE X iter te) (hg : PG X tg g) (hb : PSs X body tb)
    (hs : ∀ x, foldedSetIterable iter X.env x = pure x := by intro _; rfl) : PS X (.For tg iter body [] pos) (tForD te g tb) := by
  intro pins s σ H D I h
  refine for_gen (σ := σ) hp hc hg hb (thn (hi pins s σ H _ I h) fun v s1 ⟨x, H1, I1, r1, q1⟩ => ?_) hs
  obtain ⟨a, kvs, e, hr, q⟩ := q1
  subst e
  cases r1
  exact keys_made I1 hr fun o H2 fz h0 => ⟨thawE a o kvs H1 D, fun f s' => SP.thaw h0, q o H2 fz⟩

/-- all but the dict at a, which is held fast, is as in H1 -/
structure Fs (o : Obj) (a : Addr) (kvs : List (Key × V)) (H1 H : Hp) : Prop where
  rest : ∀ b ob, b ≠ a → H1 b = some ob → H b = some ob
  held : H a = some (.frz o (.dK kvs))
theorem Fs.sm {o : Obj} {a : Addr} {kvs : List (Key × V)} {H1 H : Hp} (f : Fs o a kvs H1 H) (h : Rd H1 a (.dK kvs)) : Sm H1 H := by
  have key : ∀ (b : Addr) (u : HO), (∀ z, u ≠ .frz z (.dK kvs)) → Rd H1 b u → (b = a → u = .dK kvs) → Rd H b u := fun b u _ hr hb => by
    by_cases e : b = a
    · subst e; rw [hb rfl]; exact .inr ⟨o, f.held⟩
    · rcases hr with q | ⟨z, q⟩
      · exact .inl (f.rest b _ e q)
      · exact .inr ⟨z, f.rest b _ e q⟩
  have same : ∀ {u : HO}, (∀ z y, u ≠ .frz z y) → Rd H1 a u → u = .dK kvs := fun {u} nu hr => by
    rcases hr with q | ⟨z, q⟩ <;> rcases h with q' | ⟨z', q'⟩ <;> rw [q] at q'
    · exact Option.some.inj q'
    · exact absurd (Option.some.inj q') (nu _ _)
    · cases q'
    · cases q'; rfl
  exact ⟨fun b xs hr => key b _ (by simp) hr fun e => same (by simp) (e ▸ hr), fun b xs hr => key b _ (by simp) hr fun e => same (by simp) (e ▸ hr), fun b xs hr => key b _ (by simp) hr fun e => same (by simp) (e ▸ hr)⟩
theorem Fs.of {o : Obj} {a : Addr} {kvs : List (Key × V)} {H1 H2 : Hp} (f : Fzn a o kvs H1 H2) : Fs o a kvs H1 H2 := by
  obtain ⟨h, e | ⟨e1, e2⟩⟩ := f
  · subst e; exact ⟨fun _ _ _ q => q, h⟩
  · subst e2; exact ⟨fun b ob n q => by rw [upd_ne n]; exact q, h⟩
theorem Fs.same {o : Obj} {a : Addr} {kvs : List (Key × V)} {H1 H H' : Hp} (f : Fs o a kvs H1 H) (e : Same H H') : Fs o a kvs H1 H' := ⟨fun b ob n q => e _ _ (f.rest b ob n q), e _ _ f.held⟩
theorem Fs.upd {o : Obj} {a l : Addr} {u : HO} {kvs : List (Key × V)} {H1 H : Hp} (f : Fs o a kvs H1 H) (h1 : H1 l = none) (h2 : l ≠ a) : Fs o a kvs H1 (L2.upd H l u) :=
  ⟨fun b ob n q => by rw [upd_ne (ne_of_none q h1)]; exact f.rest b ob n q, by rw [upd_ne h2.symm]; exact f.held⟩
theorem Fs.thaw {o : Obj} {a : Addr} {kvs : List (Key × V)} {H1 H H' : Hp} (f : Fs o a kvs H1 H) (hr : Rd H1 a (.dK kvs)) (fz : ∃ H2, Fzn a o kvs H1 H2) (t : Thw a o kvs H1 H H') : Same H1 H' ∧ ∀ b, b ≠ a → H' b = H b := by
  rcases t with ⟨e, rfl⟩ | ⟨e, rfl⟩
  · refine ⟨fun b ob q => ?_, fun b n => upd_ne n⟩
    by_cases hb : b = a
    · subst hb; rw [upd_same]; rw [e] at q; exact q
    · rw [upd_ne hb]; exact f.rest b ob hb q
  · refine ⟨fun b ob q => ?_, fun _ _ => rfl⟩
    by_cases hb : b = a
    · subst hb
      obtain ⟨H2, h2, c | ⟨c, _⟩⟩ := fz
      · subst c; rw [h2] at q; rw [← q]; exact f.held
      · exact absurd c e
    · exact f.rest b ob hb q
theorem thaw_rt {o : Obj} {a : Addr} {kvs : List (Key × V)} {H1 H H2 : Hp} {D : Ends} {v : V} (hr : Rd H1 a (.dK kvs)) (fz : Fzn a o kvs H1 H2) (f : Fs o a kvs H1 H) (h : ∀ H', Same H1 H' → (∀ b, b ≠ a → H' b = H b) → D.rt v H') : (thawE a o kvs H1 D).rt v H :=
  ⟨f.held, fun H3 t => let ⟨s1, s2⟩ := f.thaw hr ⟨_, fz⟩ t; h H3 s1 s2⟩
/-- a loop over a dict's keys that leaves all that was there as it was -/
theorem forD {o : Obj} {a : Addr} {kvs : List (Key × V)} {H1 H2 : Hp} {g : TG} {tb : TS} {D : Ends} {σ : St} (hr : Rd H1 a (.dK kvs)) (fz : Fzn a o kvs H1 H2) (Pv : Nat → St → Hp → Prop) (h0 : Pv 0 σ H1)
    (hz : ∀ i σ H H', (∀ b, b ≠ a → H' b = H b) → Pv i σ H → Pv i σ H')
    (hs : ∀ i k v σ H, kvs[i]? = some (k, v) → Fs o a kvs H1 H → Pv i σ H → g (kV k) σ H fun σ2 H2 => tb
      { nx := fun σ H => Fs o a kvs H1 H ∧ Pv (i + 1) σ H, ct := fun σ H => Fs o a kvs H1 H ∧ Pv (i + 1) σ H, bk := (thawE a o kvs H1 D).nx, rt := (thawE a o kvs H1 D).rt } σ2 H2)
    (hd : ∀ σ H, Same H1 H → Pv kvs.length σ H → D.nx σ H) : LoopVC (Itd a o kvs) g tb (thawE a o kvs H1 D) σ H2 := by
  have p2 : Pv 0 σ H2 := hz 0 σ H1 H2 (by
    obtain ⟨_, e | ⟨_, e⟩⟩ := fz
    · subst e; exact fun _ _ => rfl
    · subst e; exact fun b n => upd_ne n) h0
  refine ⟨fun i m σ H => m = kvs.length - i ∧ i ≤ kvs.length ∧ Fs o a kvs H1 H ∧ Pv i σ H, ⟨kvs.length, by simp, Nat.zero_le _, Fs.of fz, p2⟩, ?_⟩
  rintro i m σ H ⟨rfl, hi, fs, p⟩
  by_cases hlt : i < kvs.length
  · refine .inr ⟨⟨fs.held, hlt⟩, fun σ' H' => Fs o a kvs H1 H' ∧ Pv (i + 1) σ' H', fun σ' H' q => ⟨kvs.length - (i + 1), by omega, rfl, hlt, q.1, q.2⟩, ?_⟩
    rintro x H' ⟨rfl, k, v, hx, rfl⟩
    exact hs i k v σ H' hx fs p
  · have e : i = kvs.length := by omega
    subst e
    exact .inl ⟨⟨fs.held, Nat.le_refl _⟩, fs.held, fun H3 t => let ⟨s1, s2⟩ := fs.thaw hr ⟨_, fz⟩ t; hd σ H3 s1 (hz _ _ _ _ s2 p)⟩
end
end L2

set_option Elab.async false
set_option linter.all false
set_option maxRecDepth 100000
/-! BUILT-IN functions and methods (own work) -/
namespace L2
open PySem PySem.Spec PyProof.Rows

/-! ### isinstance -/
def D.ty : D → String
  | .non => "NoneType" | .bl _ => "bool" | .int _ => "int" | .str _ => "str" | .lst _ => "list" | .tup _ => "tuple" | .dct _ => "dict"
def isiB (a b : String) : Bool := a == b || (a == "bool" && b == "int")
def tyOk (b : String) : Bool := ["bool", "int", "str", "list", "tuple", "dict"].contains b
section
variable {X : Cx}
theorem kit_of (K : PySem.W.Frag) (d : D) {b : String} (h : tyOk b = true) : PySem.W.kitOne K (.type d.ty) (.type b) = some (isiB d.ty b) := by
  have hb : b = "bool" ∨ b = "int" ∨ b = "str" ∨ b = "list" ∨ b = "tuple" ∨ b = "dict" := by simpa [tyOk] using h
  rcases hb with rfl | rfl | rfl | rfl | rfl | rfl <;> cases d <;> (show PySem.W.kitOne K (.type _) (.type _) = some _) <;> with_unfolding_all rfl
theorem isi_rep {pins : List (Addr × Obj)} {σ : St} {H : Hp} {s : Shared} {A : Around} {E : Value → Shared → Prop} {Q : Value → Shared → Prop} {x : V} {u : Value} {d : D} {b : String} (I : Inv X pins σ H s) (rx : RelV x u) (r : Rep X.K H x d) (h : tyOk b = true)
    (q : ∀ tk, Q (.bool (isiB d.ty b)) { s with toks := tk }) : wpAny (model X.prog X.w) A (call (.builtin "isinstance") [u, .type b]) Q E s := by
  have e := kit_of X.K d h
  cases r with
  | non => cases rx; exact PySem.W.kia_one PySem.W.kitx_none I.kIn True.intro e (fun z => nomatch z) q
  | bl y => cases rx; exact PySem.W.kia_one PySem.W.kitx_bool I.kIn True.intro e (fun z => nomatch z) q
  | int i => obtain ⟨t, rfl⟩ := rx; exact PySem.W.kia_one PySem.W.kitx_int I.kIn True.intro e (fun z => nomatch z) q
  | str y => obtain ⟨t, rfl⟩ := rx; exact PySem.W.kia_one PySem.W.kitx_str I.kIn True.intro e (fun z => nomatch z) q
  | lst hq _ =>
    cases rx
    obtain ⟨its, _, ⟨o, n, h1, h2, _⟩, _⟩ := I.list hq
    exact PySem.W.kia_one PySem.W.kitx_list I.kIn ⟨o, h1, h2⟩ e (fun z => nomatch z) q
  | tup hq _ =>
    cases rx
    obtain ⟨its, _, ⟨o, h1, h2, _⟩, _⟩ := I.tuple hq
    exact PySem.W.kia_one PySem.W.kitx_tuple I.kIn ⟨o, h1, h2⟩ e (fun z => nomatch z) q
  | dct hq _ =>
    cases rx
    obtain ⟨_, _, vs, _, o, es, ep, h1, h2, _⟩ := dk_rd I.hok hq
    exact PySem.W.kia_one PySem.W.kitx_dict I.kIn ⟨o, h1, h2.1⟩ e (fun z => nomatch z) q
/-- isinstance(x, T) of data -/
theorem call_isi : CallR X (.builtin "isinstance") (fun xs H Q => ∃ x d b, xs = [x, .ty b] ∧ Rep X.K H x d ∧ tyOk b = true ∧ Q (.bl (isiB d.ty b)) H) := by
  rintro pins s σ H xs us Q I r ⟨x, d, b, rfl, rd, hb, q⟩
  obtain ⟨u, v, rfl, ru, rv⟩ := vals2 r
  cases rv
  exact isi_rep I ru rd hb fun tk => ⟨.bl _, H, I.tok tk, rfl, q⟩

/-! ### all(list of bools) -/
theorem call_all : CallR X (.builtin "all") (fun xs H Q => X.calm = true ∧ ∃ (a : Addr) (bs : List Bool), xs = [.ref a] ∧ SqL X.K H a (bs.map V.bl) ∧ Q (.bl (bs.all id)) H) := by
  rintro pins s σ H xs us Q I r ⟨hc, a, bs, rfl, hq, q⟩
  obtain ⟨u, rfl, ru⟩ := vals1 r
  cases ru
  obtain ⟨its, rv, p, hz⟩ := I.list hq
  have hl := rv.length
  rw [List.length_map] at hl
  refine call_all_walk (wpAny_pyIter_list p.isList ⟨s.heap.objs.size, _, _, _, _, _, fun i => bs.getD i true, rfl, Walks.list (A := X.A.in1) (show X.A.in1.handled = none from I.ok.hd hc) s.heap.objs.size a (Nat.ne_of_lt (Heap.lt_size p.choose_spec.choose_spec.1)) its.toArray, ⟨⟨_, Heap.get?_push_size _ rfl, rfl, rfl⟩, ?_⟩, ?_, ?_⟩)
  · obtain ⟨o, n, e, c, d, dd⟩ := p
    exact ⟨o, Heap.get?_push_of_some _ e, c, n, dd⟩
  · intro i v s' R E' hv hR
    have hv' : its[i]? = some v := by simpa using hv
    have hi : i < bs.length := by rw [hl]; exact (List.getElem?_eq_some_iff.mp hv').1
    have hb : (bs.map V.bl)[i]? = some (V.bl bs[i]) := by simp [hi]
    obtain ⟨w', hw, rw'⟩ := rv.get hb
    rw [hv'] at hw
    cases hw
    cases rw'
    refine wpAny_truthy_bool ?_
    have : bs.getD i true = bs[i] := by simp [hi]
    rw [← this]; exact hR
  · intro h' tk hk
    have e1 : ((List.range its.toArray.size).all fun i => bs.getD i true) = bs.all id := by
      rw [List.size_toArray, ← hl]
      apply Bool.eq_iff_iff.mpr
      simp only [List.all_eq_true, List.mem_range, id]
      constructor
      · intro h x hx
        obtain ⟨i, hi, rfl⟩ := List.mem_iff_getElem.mp hx
        have := h i hi
        simpa [hi] using this
      · intro h i hi
        have := h bs[i] (List.getElem_mem hi)
        simpa [hi] using this
    rw [e1]
    refine ⟨.bl _, H, I.kept (t' := tk) fun b o e => hk b o (fun z => ?_) (Heap.get?_push_of_some _ e), rfl, q⟩
    have z' : b = s.heap.objs.size := by simpa using z
    exact absurd (Heap.lt_size e) (by rw [z']; exact Nat.lt_irrefl _)
end
end L2

set_option Elab.async false
set_option linter.all false
set_option maxRecDepth 100000
namespace L2
open PySem PySem.Spec PyProof.Rows
/-! ### the order of texts -/
def sLt (a b : Str) : Prop := a.cps.toList < b.cps.toList
def sLe (a b : Str) : Prop := a.cps.toList ≤ b.cps.toList
instance (a b : Str) : Decidable (sLt a b) := inferInstanceAs (Decidable (a.cps.toList < b.cps.toList))
instance (a b : Str) : Decidable (sLe a b) := inferInstanceAs (Decidable (a.cps.toList ≤ b.cps.toList))
theorem Str.ext' {a b : Str} (h : a.cps.toList = b.cps.toList) : a = b := by
  obtain ⟨x⟩ := a; obtain ⟨y⟩ := b
  have : x = y := by obtain ⟨x⟩ := x; obtain ⟨y⟩ := y; exact congrArg Array.mk h
  rw [this]
theorem sLe_trans {a b c : Str} (h : sLe a b) (h' : sLe b c) : sLe a c := List.le_trans h h'
theorem sLe_antisymm {a b : Str} (h : sLe a b) (h' : sLe b a) : a = b := Str.ext' (List.le_antisymm h h')
theorem sLe_total (a b : Str) : sLe a b ∨ sLe b a := List.le_total _ _
theorem sLt_irrefl (a : Str) : ¬ sLt a a := List.lt_irrefl _
theorem sLt_iff {a b : Str} : sLt a b ↔ ¬ sLe b a := by unfold sLt sLe; exact List.not_le.symm
theorem sLt_trans {a b c : Str} (h : sLt a b) (h' : sLt b c) : sLt a c := List.lt_trans h h'
theorem sLt_of_le_ne {a b : Str} (h : sLe a b) (n : a ≠ b) : sLt a b := sLt_iff.mpr fun h' => n (sLe_antisymm h h')
theorem sLt_or {a b : Str} : sLt a b ∨ a = b ∨ sLt b a := by
  by_cases e : a = b
  · exact .inr (.inl e)
  · rcases sLe_total a b with h | h
    · exact .inl (sLt_of_le_ne h e)
    · exact .inr (.inr (sLt_of_le_ne h (fun q => e q.symm)))
def sortS (l : List Str) : List Str := l.mergeSort fun a b => decide (sLe a b)
theorem sortS_perm (l : List Str) : (sortS l).Perm l := List.mergeSort_perm _ _
theorem sortS_pw (l : List Str) : (sortS l).Pairwise sLe := by
  have := List.pairwise_mergeSort (le := fun a b => decide (sLe a b)) (fun a b c h1 h2 => decide_eq_true (sLe_trans (of_decide_eq_true h1) (of_decide_eq_true h2))) (fun a b => by
    rcases sLe_total a b with h | h <;> simp [h]) l
  exact this.imp fun h => of_decide_eq_true h
theorem sortS_eq {l l' : List Str} (p : l'.Perm l) (h : l'.Pairwise sLe) : l' = sortS l :=
  List.Perm.eq_of_pairwise (fun _ _ _ _ => sLe_antisymm) h (sortS_pw l) (p.trans (sortS_perm l).symm)
theorem sortS_congr {l l' : List Str} (p : l.Perm l') : sortS l = sortS l' := sortS_eq ((sortS_perm l).trans p) (sortS_pw l)
theorem sortS_len (l : List Str) : (sortS l).length = l.length := (sortS_perm l).length_eq
theorem mem_sortS {l : List Str} {x : Str} : x ∈ sortS l ↔ x ∈ l := (sortS_perm l).mem_iff
theorem sortS_nodup {l : List Str} (h : l.Nodup) : (sortS l).Nodup := (sortS_perm l).nodup_iff.mpr h
theorem rising_pw : ∀ (p : Str) (l : List Str), risingS p l = true → (∀ x ∈ l, sLe p x) ∧ l.Pairwise sLe
  | _, [], _ => ⟨fun _ h => absurd h (by simp), List.Pairwise.nil⟩
  | p, x :: r, h => by
    simp only [risingS, Bool.and_eq_true, Bool.not_eq_true'] at h
    obtain ⟨h1, h2⟩ := h
    obtain ⟨i1, i2⟩ := rising_pw x r h2
    have hx : sLe p x := by
      rw [ltCps_eq] at h1
      exact List.not_lt.mp (of_decide_eq_false h1)
    exact ⟨fun y hy => (List.mem_cons.mp hy).elim (fun e => e ▸ hx) fun m => sLe_trans hx (i1 y m), List.pairwise_cons.mpr ⟨i1, i2⟩⟩
theorem sortedS_pw {l : List Str} (h : sortedS l = true) : l.Pairwise sLe := by
  cases l with
  | nil => exact List.Pairwise.nil
  | cons x r => obtain ⟨i1, i2⟩ := rising_pw x r h; exact List.pairwise_cons.mpr ⟨i1, i2⟩

section
variable {X : Cx}
theorem strsAre_of : ∀ {ss : List Str} {us : List Value}, Vals (ss.map V.str) us → StrsAre us ss
  | [], _, h => by cases h; exact .nil
  | s :: r, _, h => by
    cases h with
    | cons h t => obtain ⟨tk, rfl⟩ := h; exact .cons _ _ (strsAre_of t)
theorem of_strsAre : ∀ {ss : List Str} {us : List Value}, StrsAre us ss → Vals (ss.map V.str) us
  | _, _, .nil => .nil
  | _, _, .cons _ t h => .cons ⟨t, rfl⟩ (of_strsAre h)
theorem lenS {n : Nat} (h : n < 64) : n ≤ sizeLine := Nat.le_of_lt (small1000 (by omega))
/-- sorted(list of texts) -/
theorem call_sortedL : CallR X (.builtin "sorted") (fun xs H Q => ∃ (a : Addr) (ss : List Str), xs = [.ref a] ∧ SqL X.K H a (ss.map V.str) ∧ ss.length < 64 ∧ ∀ p, H p = none → Q (.ref p) (upd H p (.lst ((sortS ss).map V.str)))) := by
  rintro pins s σ H xs us Q I r ⟨a, ss, rfl, hq, h64, q⟩
  obtain ⟨u, rfl, ru⟩ := vals1 r
  cases ru
  obtain ⟨its, rv, p, hz⟩ := I.list hq
  have hl := rv.length
  rw [List.length_map] at hl
  refine sorted_strs p.isList (strsAre_of rv) (by omega) fun out ss' ho hp hs => ?_
  have e := sortS_eq hp (sortedS_pw hs)
  subst e
  obtain ⟨ep, eo⟩ := sortedAll_at s.heap its out
  have hn : H (s.heap.objs.size + 1) = none := I.hok.fresh (Nat.le_succ _)
  refine ⟨.ref (s.heap.objs.size + 1), _, ?_, rfl, q _ hn⟩
  refine I.laid (t' := s.toks) (fun b o e => sortedAll_old e) (Nat.le_succ _) ?_
  refine ⟨by rw [List.length_map, sortS_len]; exact lenS h64, out.toList, ep, of_strsAre ho, ?_⟩
  rw [eo]
/-- what stands in a list that is made of a source: the collected things -/
theorem collect_src {prog : Program} {w : World} {A : Around} {E : Value → Shared → Prop} {s : Shared} {T : String} {r d : Addr} {n : Nat} {P : Nat → Value → Prop} {OK : Heap → Prop} {Q : List Value → Shared → Prop} (K : PySem.W.KdlSrc prog w T r d n P OK) (hh : A.handled = none) (hok : OK s.heap) (hn : n ≤ sizeLine)
    (h : ∀ (h' : Heap) (tk : Nat) (vs : List Value), (∀ b o, s.heap.get? b = some o → h'.get? b = some o) → vs.length = n → (∀ i v, vs[i]? = some v → P i v) → Q vs { s with heap := h', toks := tk }) : wpAny (model prog w) A (collect (.ref r)) Q E s := by
  have hlt := K.there _ hok
  unfold collect
  refine wpAny_bind (wpAny_runValue (codeAny_builtin F.entry_proto_collect ?_))
  rw [Around.under_plainId F.plain_proto_collect _]
  show wpAny _ A.in1 (newList [] >>= fun l => again (.builtin "list.__iadd__" ⟨[l, .ref r], []⟩)) _ _ s
  refine wpAny_bind (wpAny_newObj_type (wpAny_pure ⟨plainId_quiet F.plain_list_iadd _, codeAny_builtin F.entry_list_iadd ?_⟩))
  rw [Around.under_plainId F.plain_list_iadd _]
  show wpAny _ A.in1 (Builtin.List.listExtendWith (.ref s.heap.objs.size) (.ref r) (.ref s.heap.objs.size)) _ _ _
  have hS : (s.heap.push { cls := .type "list", data := .seq ([] : List Value).toArray }).get? s.heap.objs.size = some { cls := .type "list", data := .seq #[] } := Heap.get?_push_size _ rfl
  refine PySem.W.kdl_extend (R := fun r s' => match r with
      | .ok (.ret v) => wpAny (model prog w) A (match v with
        | .ref a => (do
          let o ← load a
          match o.data with
          | .seq xs _ => pure xs.toList
          | _ => unsupported "internal:collect")
        | _ => unsupported "internal:collect") Q E s'
      | .ok _ => False
      | .error e => E e s') (A := A) (s := { s with heap := s.heap.push { cls := .type "list", data := .seq ([] : List Value).toArray } }) K hh (K.keep _ _ hok fun b _ o e => Heap.get?_push_of_some _ e) _ (Nat.ne_of_gt hlt.1) (Nat.ne_of_gt hlt.2) _ _ hS (fun h' tk acc c hk hS' hacc => ?_) hn
  refine wpAny_bind (wpAny_load hS' ?_)
  refine wpAny_pure (h h' tk acc.toList (fun b o e => hk b o (Nat.ne_of_lt (Heap.lt_size e)) (Heap.get?_push_of_some _ e)) (by rw [Array.length_toList]; exact hacc.1) fun i v e => hacc.2 i v (by rw [← Array.getElem?_toList]; exact e))
/-- a list of texts that was collected, sorted -/
theorem sorted_by {pins : List (Addr × Obj)} {σ : St} {H : Hp} {s : Shared} {v : Value} {ss : List Str} {Q : VK} (I : Inv X pins σ H s) (h64 : ss.length < 64)
    (hc : ∀ (R : List Value → Shared → Prop), (∀ (h' : Heap) (tk : Nat) (vs : List Value), (∀ b o, s.heap.get? b = some o → h'.get? b = some o) → StrsAre vs ss → R vs { s with heap := h', toks := tk }) → wpAny (model X.prog X.w) X.A.in1 (collect v) R X.xe s)
    (q : ∀ p, H p = none → Q (.ref p) (upd H p (.lst ((sortS ss).map V.str)))) : wpAny (model X.prog X.w) X.A (call (.builtin "sorted") [v]) (EP X pins σ Q) X.xe s := by
  refine Calls.call_function_entry kind_sorted plain_sorted entry_sorted (args_sorted1 _) ?_
  unfold Builtin.«sorted»
  refine wpAny_bind (m := checkCount "sorted" 1 1 _) (wpAny_pure ?_)
  refine wpAny_bind (hc _ fun h1 tk vs hk hS => ?_)
  have hlen : vs.length = ss.length := by
    have := congrArg List.length hS.strs
    simpa using this
  refine wpAny_bind (wpAny_newList ?_)
  have hoL : (h1.push (seqObj "list" vs.toArray 0)).get? h1.objs.size = some (seqObj "list" vs.toArray 0) := Heap.get?_push_size _ rfl
  refine wpAny_bind (wpAny_holding (wpAny_call_entry slot_list_sort ⟨_, hoL, rfl⟩ entry_list_sort (list_sort_treeK strKind_oneLt hoL hS.keysOf (fun v₁ v₂ rest e => keyKind_strs (by rw [← e]; exact hS)) (by omega) fun st' a1 a2 => ⟨_, rfl, ?_⟩) (args_list_sort _)))
  obtain ⟨ss', b1, b2, b3⟩ := sorted_out_str hS a1 a2
  have e := sortS_eq b2 (sortedS_pw b3)
  subst e
  have I1 : Inv X pins σ H { s with heap := h1, toks := tk } := I.kept hk
  have hn : H h1.objs.size = none := I1.hok.fresh (Nat.le_refl _)
  obtain ⟨ep, eo⟩ := sortedHeap_at (out := (arrOf st').map (·.2)) hoL
  refine wpAny_pure ⟨_, rfl, .ref h1.objs.size, _, ?_, rfl, q _ hn⟩
  refine I1.laid (t' := tk) (fun b o e => ?_) (Nat.le_refl _) ⟨by rw [List.length_map, sortS_len]; exact lenS h64, ((arrOf st').map (·.2)).toList, ep, of_strsAre b1, ?_⟩
  · have hb := Heap.lt_size e
    rw [sortedHeap_old (Nat.ne_of_lt hb) (Nat.lt_of_lt_of_le hb (by rw [Heap.size_push]; exact Nat.le_succ _))]
    exact Heap.get?_push_of_some _ e
  · rw [eo]
theorem walked_strs : ∀ {ss : List Str} {vs : List Value}, vs.length = ss.length → (∀ (i : Nat) (v : Value), vs[i]? = some v → ∃ x, ss[i]? = some x ∧ ∃ t, v = Value.str x t) → StrsAre vs ss
  | [], [], _, _ => .nil
  | [], _ :: _, h, _ => by simp at h
  | _ :: _, [], h, _ => by simp at h
  | x :: r, v :: vs, h, q => by
    obtain ⟨y, e, t, rfl⟩ := q 0 v rfl
    simp at e
    subst e
    exact .cons _ t (walked_strs (by simpa using h) fun i u e => by simpa using q (i + 1) u (by simpa using e))
/-- the keys of a dict of texts -/
def keysS (kvs : List (Key × V)) (ks : List Str) : Prop := kvs.map (·.1) = ks.map Sum.inr
theorem keysS.get {kvs : List (Key × V)} {ks : List Str} (h : keysS kvs ks) {i : Nat} {k : Key} {v : V} (e : kvs[i]? = some (k, v)) : ∃ x, ks[i]? = some x ∧ k = Sum.inr x := by
  have : (kvs.map (·.1))[i]? = some k := by rw [List.getElem?_map, e]; rfl
  rw [h, List.getElem?_map] at this
  cases q : ks[i]? with
  | none => rw [q] at this; cases this
  | some x => rw [q] at this; exact ⟨x, rfl, (Option.some.inj this).symm⟩
theorem keysS.length {kvs : List (Key × V)} {ks : List Str} (h : keysS kvs ks) : kvs.length = ks.length := by
  have := congrArg List.length h
  simpa using this
theorem dict_src {pins : List (Addr × Obj)} {σ : St} {H : Hp} {s : Shared} {a : Addr} {kvs : List (Key × V)} (I : Inv X pins σ H s) (h : Rd H a (.dK kvs)) :
    kvs.length ≤ sizeLine ∧ ∃ vs ep, KV kvs vs ∧ s.heap.DictAt (mixKind X.prog X.w) a vs ep ∧ PySem.W.KdlSrc X.prog X.w "dict" a a vs.length (fun i v => ∃ k x, vs[i]? = some (k, x) ∧ (mixKind X.prog X.w).is k v = true) (fun h => h.DictAt (mixKind X.prog X.w) a vs ep) := by
  obtain ⟨z, m, vs, rel, dd⟩ := dk_rd I.hok h
  obtain ⟨ep, da⟩ := dd.dictAt
  exact ⟨z, vs, ep, rel, da, PySem.W.kdl_dict m⟩
/-- sorted(dict whose keys are texts) -/
theorem call_sortedD : CallR X (.builtin "sorted") (fun xs H Q => X.calm = true ∧ ∃ (a : Addr) (kvs : List (Key × V)) (ks : List Str), xs = [.ref a] ∧ Rd H a (.dK kvs) ∧ keysS kvs ks ∧ ks.length < 64 ∧ ∀ p, H p = none → Q (.ref p) (upd H p (.lst ((sortS ks).map V.str)))) := by
  rintro pins s σ H xs us Q I r ⟨hc, a, kvs, ks, rfl, hr, hk, h64, q⟩
  obtain ⟨u, rfl, ru⟩ := vals1 r
  cases ru
  obtain ⟨z, vs, ep, rel, da, src⟩ := dict_src I hr
  have hl := Paired.length rel
  refine sorted_by I h64 (fun R hR => collect_src src (I.ok.hd hc) da (by omega) fun h' tk us hk' hlen hP => hR h' tk us hk' ?_) q
  refine walked_strs (by have := hk.length; omega) fun i v e => ?_
  obtain ⟨k, x, e1, e2⟩ := hP i v e
  have hi : i < kvs.length := by rw [hl]; exact (List.getElem?_eq_some_iff.mp e1).1
  obtain ⟨⟨k', v'⟩, e3⟩ : ∃ p, kvs[i]? = some p := ⟨kvs[i], by simp [hi]⟩
  obtain ⟨u', e4, _⟩ := KV.get rel e3
  rw [e1] at e4
  cases e4
  obtain ⟨y, e5, rfl⟩ := hk.get e3
  refine ⟨y, e5, ?_⟩
  rcases keyIs_shape (show keyIs (Sum.inr y) v = true from e2) with ⟨i, t, q1, q2⟩ | ⟨y', t, q1, q2⟩
  · cases q1
  · cases q1; exact ⟨t, q2⟩
/-- list(dict) -/
theorem call_listD : CallR X (.type "list") (fun xs H Q => X.calm = true ∧ ∃ (a : Addr) (kvs : List (Key × V)), xs = [.ref a] ∧ Rd H a (.dK kvs) ∧ ∀ p, H p = none → Q (.ref p) (upd H p (.lst (kvs.map fun e => kV e.1)))) := by
  rintro pins s σ H xs us Q I r ⟨hc, a, kvs, rfl, hr, q⟩
  obtain ⟨u, rfl, ru⟩ := vals1 r
  cases ru
  obtain ⟨z, vs, ep, rel, da, src⟩ := dict_src I hr
  have hl := Paired.length rel
  refine PySem.W.kdl_call src (I.ok.hd hc) da (by omega) fun h' tk acc c hk hS hacc => ?_
  have hn : H s.heap.objs.size = none := I.hok.fresh (Nat.le_refl _)
  refine ⟨.ref s.heap.objs.size, _, ?_, rfl, q _ hn⟩
  refine I.laid (t' := tk) hk (Nat.le_refl _) ⟨by rw [List.length_map]; exact z, acc.toList, c, ?_, by rw [hS]⟩
  have hal : acc.toList.length = kvs.length := by rw [Array.length_toList, hacc.1, hl]
  have key : ∀ (i : Nat) (v : Value), acc.toList[i]? = some v → ∃ k y, kvs[i]? = some (k, y) ∧ RelV (kV k) v := fun i v e => by
    obtain ⟨k, x, e1, e2⟩ := hacc.2 i v (by rw [← Array.getElem?_toList]; exact e)
    have hi : i < kvs.length := by rw [hl]; exact (List.getElem?_eq_some_iff.mp e1).1
    obtain ⟨⟨k', v'⟩, e3⟩ : ∃ p, kvs[i]? = some p := ⟨kvs[i], by simp [hi]⟩
    obtain ⟨u', e4, _⟩ := KV.get rel e3
    rw [e1] at e4
    cases e4
    exact ⟨k, v', e3, kV_of e2⟩
  clear hS hacc src da rel hl
  revert hal key
  generalize acc.toList = l
  clear z q hr r
  induction kvs generalizing l with
  | nil =>
    intro hal _
    cases l with
    | nil => exact .nil
    | cons _ _ => simp at hal
  | cons e kvs ih =>
    intro hal key
    cases l with
    | nil => simp at hal
    | cons v l =>
      obtain ⟨k, y, e1, e2⟩ := key 0 v rfl
      simp at e1
      subst e1
      exact .cons e2 (ih _ (by simpa using hal) fun i u e => by simpa using key (i + 1) u (by simpa using e))
end
end L2

set_option Elab.async false
set_option linter.all false
set_option maxRecDepth 100000
/-! TEXTS (own work) -/
namespace L2
open PySem PySem.Spec PyProof.Rows PySem.Builtin.Str
/-- the list of a text's signs, and back -/
abbrev cs (x : Str) : List Nat := x.cps.toList
abbrev ofC (l : List Nat) : Str := ⟨l.toArray⟩
theorem cs_ofC (l : List Nat) : cs (ofC l) = l := rfl
theorem cs_len (x : Str) : (cs x).length = x.length := by obtain ⟨x⟩ := x; rfl
theorem cs_append (x y : Str) : cs (x ++ y) = cs x ++ cs y := by
  obtain ⟨x⟩ := x; obtain ⟨y⟩ := y
  show (x ++ y).toList = x.toList ++ y.toList
  simp
/-- x[lo:hi] -/
def cutC {α : Type} (l : List α) (lo hi : Option Int) : List α := (l.drop (HT.sIx l.length 0 lo)).take (HT.sIx l.length l.length hi - HT.sIx l.length 0 lo)
def cutS (x : Str) (lo hi : Option Int) : Str := ofC (cutC (cs x) lo hi)
theorem cutC_len {α : Type} (l : List α) (lo hi : Option Int) : (cutC l lo hi).length ≤ l.length := by
  unfold cutC
  rw [List.length_take, List.length_drop]
  omega
theorem clip1 (lo : Option Int) (n d : Nat) (hd : d ≤ n) : (match lo with | none => (d : Int) | some i => (let i := if i < 0 then i + n else i; if (1 : Int) > 0 then max 0 (min i n) else max (-1) (min i ((n : Int) - 1)))) = ((HT.sIx n d lo : Nat) : Int) := by
  cases lo with
  | none => rfl
  | some i =>
    show (if (1 : Int) > 0 then max 0 (min (if i < 0 then i + (n : Int) else i) n) else _) = _
    rw [if_pos (by decide)]
    unfold HT.sIx
    by_cases h : i < 0
    · simp only [h, if_true]; omega
    · simp only [h, if_false]; omega
theorem indices_cut (lo hi : Option Int) (n : Nat) : strSliceIndices lo hi 1 n = (List.range (HT.sIx n n hi - HT.sIx n 0 lo)).map fun k => HT.sIx n 0 lo + k := by
  have e1 := clip1 lo n 0 (Nat.zero_le _)
  have e2 := clip1 hi n n (Nat.le_refl _)
  have : strSliceIndices lo hi 1 n = sliceRange ((HT.sIx n 0 lo : Nat) : Int) ((HT.sIx n n hi : Nat) : Int) 1 := by
    rw [← e1, ← e2]
    cases lo <;> cases hi <;> rfl
  rw [this]
  unfold sliceRange
  generalize HT.sIx n 0 lo = a
  generalize HT.sIx n n hi = b
  by_cases h : (a : Int) < b
  · simp only [show ((1 : Int) > 0) = True by simp, if_true, h]
    have e3 : (((b : Int) - a + 1 - 1) / 1).toNat = b - a := by omega
    rw [e3]
    apply List.map_congr_left
    intro k _
    omega
  · simp only [show ((1 : Int) > 0) = True by simp, if_true, h, if_false]
    have e3 : b - a = 0 := by omega
    rw [e3]
    rfl
theorem picked_cut (x : Str) (l u : Option (Int × Tok)) : (slicePicked x l u none).filterMap (x.cps[·]?) = cutC (cs x) (l.map (·.1)) (u.map (·.1)) := by
  unfold slicePicked cutC
  show (strSliceIndices (l.map (·.1)) (u.map (·.1)) 1 x.length).filterMap _ = _
  rw [indices_cut, cs_len]
  have hle := HT.sIx_le x.length x.length (Nat.le_refl _) (u.map (·.1))
  generalize HT.sIx x.length 0 (l.map (·.1)) = a at *
  generalize HT.sIx x.length x.length (u.map (·.1)) = b at *
  have e : (fun (i : Nat) => x.cps[i]?) = fun (i : Nat) => (cs x)[i]? := by funext i; simp [cs]
  rw [e]
  by_cases h : a ≤ b
  · exact StrLaws.picks (cs x) (b - a) a (by rw [cs_len]; omega)
  · have e3 : b - a = 0 := by omega
    rw [e3]; simp
section
variable {X : Cx}
/-- x[lo:hi] of a text -/
theorem sl_str : SlR X (fun x lo hi H Q => ∃ z, x = .str z ∧ z.length ≤ sizeLine ∧ Q (.str (cutS z lo hi)) H) := by
  rintro pins s σ H x v vl vu lo hi sl Q I rx hs pl pu ⟨z, rfl, hz, q⟩
  obtain ⟨t, rfl⟩ := rx
  refine ⟨"str", _, PySem.F.slot_str_getitem.lookup, typeIs_str s z t, ?_⟩
  obtain ⟨l, hl1, hl2⟩ : ∃ l : Option (Int × Tok), vl = partValue l ∧ lo = l.map (·.1) := by
    cases pl with
    | none => exact ⟨none, rfl, rfl⟩
    | int i t => exact ⟨some (i, t), rfl, rfl⟩
  obtain ⟨u, hu1, hu2⟩ : ∃ l : Option (Int × Tok), vu = partValue l ∧ hi = l.map (·.1) := by
    cases pu with
    | none => exact ⟨none, rfl, rfl⟩
    | int i t => exact ⟨some (i, t), rfl, rfl⟩
  subst hl1 hl2 hu1 hu2
  refine wpAny_getItem_str_slice (l := l) (u := u) (st := none) hs (by rfl) ?_
  unfold sliceMade
  split
  · rename_i hw
    have hw' : (slicePicked z l u none).length = z.length := by simpa using hw
    have e : cutS z (l.map (·.1)) (u.map (·.1)) = z := by
      have hp := picked_cut z l u
      unfold cutS
      have hlen : (cutC (cs z) (l.map (·.1)) (u.map (·.1))) = cs z := by
        unfold slicePicked at hw'
        rw [show ((none : Option (Int × Tok)).map (·.1)).getD 1 = (1 : Int) from rfl, indices_cut, List.length_map, List.length_range] at hw'
        have h1 := HT.sIx_le z.length z.length (Nat.le_refl _) (u.map (·.1))
        unfold cutC
        rw [cs_len]
        generalize HT.sIx z.length 0 (l.map (·.1)) = a at *
        generalize HT.sIx z.length z.length (u.map (·.1)) = b at *
        have ha : a = 0 ∨ z.length = 0 := by omega
        rcases ha with ha | ha
        · subst ha
          rw [List.drop_zero, List.take_of_length_le (by rw [cs_len]; omega)]
        · have : cs z = [] := List.eq_nil_of_length_eq_zero (by rw [cs_len]; exact ha)
          rw [this]
          simp
      rw [hlen]
    rw [e] at q
    exact ⟨.str z, H, I, ⟨t, rfl⟩, q⟩
  · rw [picked_cut]
    refine ⟨?_, .str _, H, I.tok _, ⟨_, rfl⟩, q⟩
    have := cutC_len (cs z) (l.map (·.1)) (u.map (·.1))
    rw [cs_len] at this
    show (cutC (cs z) (l.map (·.1)) (u.map (·.1))).toArray.size ≤ _
    rw [List.size_toArray]
    omega
/-- sep.join(list of texts) -/
def joinS : Str → List Str → Str := Txt.join
theorem mt_join : MtR X "str.join" (fun x xs H Q => ∃ (sep : Str) (a : Addr) (ss : List Str), x = .str sep ∧ xs = [.ref a] ∧ SqL X.K H a (ss.map V.str) ∧ (ss.map (·.length)).sum + ss.length * sep.length ≤ 16777216 ∧ Q (.str (joinS sep ss)) H) := by
  rintro pins s σ H x xs v us Q I rx rv ⟨sep, a, ss, rfl, rfl, hq, hz, q⟩
  obtain ⟨t, rfl⟩ := rx
  obtain ⟨u, rfl, ru⟩ := vals1 rv
  cases ru
  obtain ⟨its, rr, p, _⟩ := I.list hq
  exact join_list p.isList (by simpa using strsAre_of rr) hz fun t' k => ⟨.str _, H, I.tok _, ⟨_, rfl⟩, q⟩
end
/-- the signs of a text -/
def Its (x : Str) : It := ⟨fun i _ => i < x.length, fun i H v H' => H' = H ∧ ∃ c, (cs x)[i]? = some c ∧ v = .str ⟨#[c]⟩, fun i _ => x.length ≤ i⟩
theorem cps_get (x : Str) (i : Nat) : x.cps[i]? = (cs x)[i]? := by simp [cs]
theorem striter_nocell {h : Heap} {it : Addr} {ty : String} {x : Str} {t : Tok} {i : Nat} (y : h.IsStrIter it ty x t i) : ∃ o, h.get? it = some o ∧ ∀ v, o.data ≠ .cell v := by
  obtain ⟨o, e, c, q⟩ := y
  exact ⟨o, e, fun v z => by rw [q] at z; cases z⟩
theorem IsStrIter.at {h h' : Heap} {it : Addr} {ty : String} {x : Str} {t : Tok} {i : Nat} (y : h.IsStrIter it ty x t i) (e : ∀ o, h.get? it = some o → h'.get? it = some o) : h'.IsStrIter it ty x t i := let ⟨o, ho, r⟩ := y; ⟨o, e _ ho, r⟩
theorem turn_str {P : Program} {w : World} {K : PySem.W.Frag} {tg : Expr} (it : Addr) (x : Str) (t : Tok) (ty : String) (hty : ty = "str_ascii_iterator" ∨ ty = "str_iterator") : Turn P w K tg (Its x) [it] it (fun i h => h.IsStrIter it ty x t i) where
  mem := by simp
  obj := fun i h st b hb => by
    have e : b = it := by simpa using hb
    subst e
    exact striter_nocell st
  keep := fun i h h' st k => IsStrIter.at st fun o e => k it (by simp) o e
  item := by
    intro X hP hw hK hc i pins s σ H E I hf st hg
    subst hP hw hK
    have hi : i < x.length := hg
    obtain ⟨c, hx⟩ : ∃ c, (cs x)[i]? = some c := ⟨(cs x)[i]'(by rw [cs_len]; exact hi), by simp [cs_len, hi]⟩
    obtain ⟨f0, f1, f2, f3, f4, f5⟩ := hf it (by simp)
    have fin : ∀ h', h'.IsStrIter it ty x t (i + 1) → Heap.SameBut it s.heap h' → ∃ u, some (Value.str ⟨#[c]⟩ s.toks) = some u ∧ wpAny (model X.prog X.w) X.A (letOwnedTupleGo tg (.ref it) u) (fun _ s2 => ∃ y H', Inv X pins σ H' s2 ∧ RelV y u ∧ (Its x).yld i H y H' ∧ s2.heap.IsStrIter it ty x t (i + 1) ∧ ∀ b ∈ [it], H' b = none) E { s with heap := h', toks := s.toks + 1 } := fun h' st' sb => by
      have I1 : Inv X pins σ H { s with heap := h', toks := s.toks + 1 } := I.turned (fun b o hb e => (sb.2 b hb).trans e) f0 f1 f3 f4 f5
      obtain ⟨o2, e2, c2, d2⟩ := id st'
      refine ⟨_, rfl, go_of (s := { s with heap := h', toks := s.toks + 1 }) e2 c2 d2 (by rcases hty with rfl | rfl <;> decide) ⟨.str ⟨#[c]⟩, H, I1, ⟨_, rfl⟩, ⟨rfl, c, hx, rfl⟩, st', fun b hb => (hf b hb).1⟩⟩
    rcases hty with rfl | rfl
    · exact wpAny_pyNext_ascii_item st (by rw [cps_get]; exact hx) fin
    · exact wpAny_pyNext_wide_item st (by rw [cps_get]; exact hx) fin
  done := by
    intro X hP hw hK hc i pins s σ H E I hf st hg
    subst hP hw hK
    have hi : x.length ≤ i := hg
    obtain ⟨f0, f1, f2, f3, f4, f5⟩ := hf it (by simp)
    have hx : x.cps[i]? = none := by rw [cps_get]; exact List.getElem?_eq_none (by rw [cs_len]; exact hi)
    rcases hty with rfl | rfl
    · exact wpAny_pyNext_ascii_end (I.ok.hd hc) st hx fun h' eb => ⟨rfl, I.turned (t' := s.toks) (fun b o hb e => eb b o hb e) f0 f1 f3 f4 f5⟩
    · exact wpAny_pyNext_wide_end (I.ok.hd hc) st hx fun h' eb => ⟨rfl, I.turned (t' := s.toks) (fun b o hb e => eb b o hb e) f0 f1 f3 f4 f5⟩
  self := fun _ _ _ _ _ st h => by
    rcases hty with rfl | rfl
    · exact wpAny_pyIter_striter_ascii st h
    · exact wpAny_pyIter_striter_wide st h
def iStr (tl : TE) : TI := fun σ H R => tl σ H fun v H1 => ∃ x, v = .str x ∧ R (Its x) H1
section
variable {X : Cx} {tg : Expr}
theorem pi_str {l : Expr} {tl : TE} (hl : PE X l tl) : PI X tg l (iStr tl) := by
  intro pins s σ H R I h
  refine thn (hl pins s σ H _ I h) fun v s1 ⟨y, H1, I1, r1, x, e, q⟩ => ?_
  subst e
  obtain ⟨t, rfl⟩ := r1
  have fin : ∀ (ty : String) (hty : ty = "str_ascii_iterator" ∨ ty = "str_iterator"), PIE X pins σ tg R (.ref s1.heap.objs.size) { s1 with heap := s1.heap.push { cls := .type ty, data := .fields #[.str x t, .int 0 0] } } := fun ty hty => by
    refine ⟨s1.heap.objs.size, [s1.heap.objs.size], _, _, H1, rfl, I1.kept (t' := s1.toks) fun b o e => Heap.get?_push_of_some _ e, turn_str _ x t ty hty, ⟨_, Heap.get?_push_size _ rfl, rfl, rfl⟩, fun b hb => ?_, q⟩
    have e : b = s1.heap.objs.size := by simpa using hb
    subst e
    exact I1.fpOk (Nat.le_refl _) (I1.hok.fresh (Nat.le_refl _))
  cases ha : x.cps.all (· < 128) with
  | true => exact wpAny_pyIter_ascii ha (fin _ (.inl rfl))
  | false => exact wpAny_pyIter_wide ha (fin _ (.inr rfl))
end
end L2

set_option Elab.async false
set_option linter.all false
set_option maxRecDepth 100000
namespace L2
open PySem PySem.Spec PyProof.Rows
/-! ### the names of Python's own -/
theorem boot_isinstance' : bootBuiltins "isinstance" = some (.builtin "isinstance") := by decide +kernel
theorem boot_len' : bootBuiltins "len" = some (.builtin "len") := by decide +kernel
theorem boot_max' : bootBuiltins "max" = some (.builtin "max") := by decide +kernel
theorem boot_all' : bootBuiltins "all" = some (.builtin "all") := by decide +kernel
theorem boot_ty_str : bootBuiltins "str" = some (.type "str") := by decide +kernel
theorem boot_ty_int : bootBuiltins "int" = some (.type "int") := by decide +kernel
theorem boot_ty_bool : bootBuiltins "bool" = some (.type "bool") := by decide +kernel
theorem boot_ty_list : bootBuiltins "list" = some (.type "list") := by decide +kernel
/-- a def of the top: how it stands, how it binds, its name -/
structure Top (K : PySem.W.Frag) (mg : Str → Option Value) (nm : Str) (st : Stmt) (ps : List Str) (f : Addr) (fd : FuncData) : Prop where
  fn : Fun K nm nm st f fd
  bd : Binds K fd ps []
  mg : mg nm = some (.ref f)
theorem Top.kp {K : PySem.W.Frag} {mg : Str → Option Value} {nm : Str} {st : Stmt} {ps : List Str} {f : Addr} {fd : FuncData} (T : Top K mg nm st ps f fd) : PySem.W.keepIn K (.ref f) = true := T.fn.kp
section
variable {X : Cx}
/-- d.clear() -/
theorem mt_clearD : MtR X "dict.clear" (fun x xs H Q => ∃ a kvs, x = .ref a ∧ xs = [] ∧ H a = some (.dK kvs) ∧ Q .non (upd H a (.dK []))) := by
  rintro pins s σ H x xs v us Q I rx rv ⟨a, kvs, rfl, rfl, h, q⟩
  cases rx
  cases rv
  exact d_clear I h fun s' I' => ⟨.non, _, I', rfl, q⟩
/-- for v in d.values(): as over the keys -/
def tForV (te : TE) (g : TG) (tb : TS) : TS := fun D σ H => te σ H fun x H1 => ∃ a kvs, x = .ref a ∧ Rd H1 a (.dK kvs) ∧ ∀ o H2, Fzn a o kvs H1 H2 → LoopVC (Itv a o kvs) g tb (thawE a o kvs H1 D) σ H2
end
/-- a loop over a dict's values that leaves all that was there as it was -/
theorem forV {o : Obj} {a : Addr} {kvs : List (Key × V)} {H1 H2 : Hp} {g : TG} {tb : TS} {D : Ends} {σ : St} (hr : Rd H1 a (.dK kvs)) (fz : Fzn a o kvs H1 H2) (Pv : Nat → St → Hp → Prop) (h0 : Pv 0 σ H1)
    (hz : ∀ i σ H H', (∀ b, b ≠ a → H' b = H b) → Pv i σ H → Pv i σ H')
    (hs : ∀ i k v σ H, kvs[i]? = some (k, v) → Fs o a kvs H1 H → Pv i σ H → g v σ H fun σ2 H2 => tb
      { nx := fun σ H => Fs o a kvs H1 H ∧ Pv (i + 1) σ H, ct := fun σ H => Fs o a kvs H1 H ∧ Pv (i + 1) σ H, bk := (thawE a o kvs H1 D).nx, rt := (thawE a o kvs H1 D).rt } σ2 H2)
    (hd : ∀ σ H, Same H1 H → Pv kvs.length σ H → D.nx σ H) : LoopVC (Itv a o kvs) g tb (thawE a o kvs H1 D) σ H2 := by
  have p2 : Pv 0 σ H2 := hz 0 σ H1 H2 (by
    obtain ⟨_, e | ⟨_, e⟩⟩ := fz
    · subst e; exact fun _ _ => rfl
    · subst e; exact fun b n => upd_ne n) h0
  refine ⟨fun i m σ H => m = kvs.length - i ∧ i ≤ kvs.length ∧ Fs o a kvs H1 H ∧ Pv i σ H, ⟨kvs.length, by simp, Nat.zero_le _, Fs.of fz, p2⟩, ?_⟩
  rintro i m σ H ⟨rfl, hi, fs, p⟩
  by_cases hlt : i < kvs.length
  · refine .inr ⟨⟨fs.held, hlt⟩, fun σ' H' => Fs o a kvs H1 H' ∧ Pv (i + 1) σ' H', fun σ' H' q => ⟨kvs.length - (i + 1), by omega, rfl, hlt, q.1, q.2⟩, ?_⟩
    rintro x H' ⟨rfl, k, hx⟩
    exact hs i k x σ H' hx fs p
  · have e : i = kvs.length := by omega
    subst e
    exact .inl ⟨⟨fs.held, Nat.le_refl _⟩, fs.held, fun H3 t => let ⟨s1, s2⟩ := fs.thaw hr ⟨_, fz⟩ t; hd σ H3 s1 (hz _ _ _ _ s2 p)⟩
section
variable {X : Cx} {tg : Expr}
theorem vals_made {pins : List (Addr × Obj)} {s1 : Shared} {σ : St} {H1 : Hp} {a v : Addr} {kvs : List (Key × V)} {R : It → Hp → Prop} {E : Value → Shared → Prop} (I1 : Inv X pins σ H1 s1) (hv : s1.heap.IsValuesView v a) (hq : Rd H1 a (.dK kvs))
    (q : ∀ o H2, Fzn a o kvs H1 H2 → (H1 a = some (.dK kvs) → ∀ o u, X.H₀ a ≠ some (.frz o u)) → R (Itv a o kvs) H2) : wpAny (model X.prog X.w) X.A (pyIter (.ref v)) (PIE X pins σ tg R) E s1 := by
  obtain ⟨o, H2, fz, I2⟩ := I1.fzn hq
  obtain ⟨m, vs, ep, rel, da, es, ho⟩ := frz_at I2 fz.1
  have hlen := Paired.length rel
  refine wpAny_pyIter_values hv da ?_
  rw [← hlen]
  refine ⟨s1.heap.objs.size, [s1.heap.objs.size], _, _, H2, rfl, I2.kept (t' := s1.toks) fun b o e => Heap.get?_push_of_some _ e, turn_vals a _ kvs ho, ⟨_, Heap.get?_push_size _ rfl, rfl, rfl⟩, fun b hb => ?_, q o H2 fz (fun hd o u z => ?_)⟩
  · have e : b = s1.heap.objs.size := by simpa using hb
    subst e
    exact I2.fpOk (Nat.le_refl _) (I2.hok.fresh (Nat.le_refl _))
  · have := I1.base.frzs a o u z
    rw [hd] at this
    cases this
theorem ps_forV {iter : Expr} {body : List Stmt} {te : TE} {g : TG} {tb : TS} {pos apos cpos : Pos} (hp : PassesOwn (model X.prog X.w) X.A X.env X.xe) (hc : X.calm = true) (hi : PE X iter te) (hg : PG X tg g) (hb : PSs X body tb)
    (hbase : attributeBase iter "values" X.env (eval iter X.env) = eval iter X.env := by rfl) (hline : (apos.endLine == cpos.line) = true := by rfl)
    (hs : ∀ x, foldedSetIterable (.Call (.Attribute iter "values" apos) [] [] cpos) X.env x = pure x := by intro _; rfl) : PS X (.For tg (.Call (.Attribute iter "values" apos) [] [] cpos) body [] pos) (tForV te g tb) := by
  intro pins s σ H D I h
  refine for_gen (σ := σ) hp hc hg hb (wpAny_Call_method0_late hbase hline (thn (hi pins s σ H _ I h) fun v s1 ⟨x, H1, I1, r1, a, kvs, e, hr, q⟩ => ?_)) hs
  subst e
  cases r1
  obtain ⟨z, m, vs, rel, dd⟩ := dk_rd I1.hok hr
  have dd' := dd
  obtain ⟨o, es, ep, ho, ex, _⟩ := dd'
  refine ⟨"dict", "dict.values", PySem.F.plainAttrs_dict, PySem.F.slot_dict_values, PySem.F.type_dict_values, dd.typeIs, fun b e => ?_, ?_⟩
  · cases e; exact ⟨o, ho, ex.2.1⟩
  · refine Calls.callWith_builtin rfl (PySem.evalArgs_none ?_)
    refine call_meetsIn PySem.F.slot_dict_values dd.typeIs PySem.F.entry_dict_values (PySem.F.args_dict_values_1 _) (meets_dict_values (mixKind X.prog X.w) a m) ⟨⟨vs, dd⟩, ?_⟩
    have I2 : Inv X pins σ H1 { s1 with heap := s1.heap.push { cls := .type "dict_values", data := .fields #[.ref a] } } := I1.kept (t' := s1.toks) fun b o e => Heap.get?_push_of_some _ e
    exact vals_made I2 ⟨_, Heap.get?_push_size _ rfl, rfl, rfl⟩ hr fun o H2 fz h0 => ⟨thawE a o kvs H1 D, fun f s' => SP.thaw h0, q o H2 fz⟩
end
end L2

set_option Elab.async false
set_option linter.all false
set_option maxRecDepth 100000
/-! NETS: dicts of dicts of ints, with texts as keys (own work) -/
namespace L2
open PySem PySem.Spec PyProof.Rows
abbrev Row := List (Str × Int)
def look (l : Row) (k : Str) : Option Int := (l.find? fun e => decide (e.1 = k)).map (·.2)
def put (l : Row) (k : Str) (v : Int) : Row := if (l.any fun e => decide (e.1 = k)) = true then l.map (fun e => if e.1 = k then (e.1, v) else e) else l ++ [(k, v)]
def encI (l : Row) : List (Key × V) := l.map fun e => (Sum.inr e.1, .int e.2)
def rowD (l : Row) : D := .dct (l.map fun e => (Sum.inr e.1, .int e.2))
theorem look_nil (k : Str) : look [] k = none := rfl
theorem look_cons (x : Str) (y : Int) (r : Row) (k : Str) : look ((x, y) :: r) k = if x = k then some y else look r k := by
  unfold look
  rw [List.find?_cons]
  by_cases h : x = k
  · rw [decide_eq_true h, if_pos h]; rfl
  · rw [decide_eq_false h, if_neg h]
theorem any_look (l : Row) (k : Str) : (l.any fun e => decide (e.1 = k)) = (look l k).isSome := by
  induction l with
  | nil => rfl
  | cons e r ih =>
    obtain ⟨x, y⟩ := e
    rw [List.any_cons, look_cons, ih]
    by_cases h : x = k
    · simp [h]
    · simp [h]
theorem look_append (l l' : Row) (k : Str) : look (l ++ l') k = (look l k).or (look l' k) := by
  induction l with
  | nil => simp [look_nil]
  | cons e r ih =>
    obtain ⟨x, y⟩ := e
    rw [List.cons_append, look_cons, look_cons, ih]
    by_cases h : x = k
    · simp [h]
    · simp [h]
theorem look_repl (l : Row) (k : Str) (v : Int) (j : Str) : look (l.map fun e => if e.1 = k then (e.1, v) else e) j = if k = j then (look l k).map (fun _ => v) else look l j := by
  induction l with
  | nil => by_cases h : k = j <;> simp [look_nil, h]
  | cons e r ih =>
    obtain ⟨x, y⟩ := e
    by_cases h : x = k
    · subst h
      rw [List.map_cons, if_pos rfl, look_cons, look_cons, look_cons, ih]
      by_cases h2 : x = j
      · simp [h2]
      · simp [h2]
    · rw [List.map_cons, if_neg h, look_cons, look_cons, look_cons, ih]
      by_cases h2 : x = j
      · subst h2
        have : ¬ k = x := fun q => h q.symm
        simp [h, this]
      · by_cases h3 : k = j
        · simp [h2, h3, h]
        · simp [h2, h3, h]
theorem look_put (l : Row) (k : Str) (v : Int) (j : Str) : look (put l k v) j = if k = j then some v else look l j := by
  unfold put
  rw [any_look]
  cases h : look l k with
  | some w =>
    rw [if_pos (by simp), look_repl, h]
    rfl
  | none =>
    rw [if_neg (by simp), look_append, look_cons, look_nil]
    by_cases c : k = j
    · subst c; simp [h]
    · simp [c]
theorem put_keys_in {l : Row} {k : Str} {v : Int} (h : (look l k).isSome = true) : (put l k v).map (·.1) = l.map (·.1) := by
  unfold put
  rw [any_look, if_pos h, List.map_map]
  apply List.map_congr_left
  intro e _
  show (if e.1 = k then (e.1, v) else e).1 = e.1
  by_cases c : e.1 = k <;> simp [c]
theorem put_keys_new {l : Row} {k : Str} {v : Int} (h : look l k = none) : (put l k v).map (·.1) = l.map (·.1) ++ [k] := by
  unfold put
  rw [any_look, h, if_neg (by simp), List.map_append]
  rfl
theorem look_mem {l : Row} {k : Str} {v : Int} (h : look l k = some v) : (k, v) ∈ l := by
  induction l with
  | nil => cases h
  | cons e r ih =>
    obtain ⟨a, b⟩ := e
    rw [look_cons] at h
    by_cases c : a = k
    · rw [if_pos c] at h; cases h; subst c; exact List.mem_cons_self
    · rw [if_neg c] at h; exact List.mem_cons_of_mem _ (ih h)
theorem mem_look {l : Row} (nd : (l.map (·.1)).Nodup) {k : Str} {v : Int} (h : (k, v) ∈ l) : look l k = some v := by
  induction l with
  | nil => simp at h
  | cons e r ih =>
    obtain ⟨a, b⟩ := e
    have nd' : (a :: r.map (·.1)).Nodup := nd
    obtain ⟨h1, h2⟩ := List.nodup_cons.mp nd'
    rw [look_cons]
    rcases List.mem_cons.mp h with q | q
    · cases q; rw [if_pos rfl]
    · rw [if_neg (fun (c : a = k) => h1 (by rw [c]; exact List.mem_map.mpr ⟨_, q, rfl⟩))]; exact ih h2 q
theorem look_none {l : Row} {k : Str} : look l k = none ↔ k ∉ l.map (·.1) := by
  induction l with
  | nil => simp [look_nil]
  | cons e r ih =>
    obtain ⟨a, b⟩ := e
    rw [look_cons]
    by_cases c : a = k
    · subst c; simp
    · rw [if_neg c, ih]
      have c' : ¬ k = a := fun q => c q.symm
      simp [c']
theorem look_some_iff {l : Row} {k : Str} : (∃ v, look l k = some v) ↔ k ∈ l.map (·.1) := by
  constructor
  · rintro ⟨v, h⟩; exact List.mem_map.mpr ⟨_, look_mem h, rfl⟩
  · intro h
    cases e : look l k with
    | none => exact absurd h (look_none.mp e)
    | some v => exact ⟨v, rfl⟩
/-- rows of the same pairs have as many -/
theorem rows_len {l l' : Row} (n : (l.map (·.1)).Nodup) (n' : (l'.map (·.1)).Nodup) (h : ∀ k, look l k = look l' k) : l.length = l'.length := by
  have p : (l.map (·.1)).Perm (l'.map (·.1)) := (List.perm_ext_iff_of_nodup n n').mpr fun k => by
    rw [← look_some_iff, ← look_some_iff, h]
  simpa using p.length_eq
theorem valV_enc (l : Row) (k : Str) : valV (encI l) (Sum.inr k) = (look l k).map V.int := by
  induction l with
  | nil => rfl
  | cons e r ih =>
    obtain ⟨a, b⟩ := e
    show valV ((Sum.inr a, V.int b) :: encI r) (Sum.inr k) = _
    rw [look_cons]
    by_cases c : a = k
    · subst c; rw [valV_pos rfl, if_pos rfl]; rfl
    · rw [valV_neg (fun q => c (Sum.inr.inj q)), if_neg c]; exact ih
theorem put_nodup {l : Row} (k : Str) (v : Int) (h : (l.map (·.1)).Nodup) : ((put l k v).map (·.1)).Nodup := by
  cases e : look l k with
  | some w => rw [put_keys_in (by rw [e]; rfl)]; exact h
  | none => rw [put_keys_new e]; exact nd_snoc h (look_none.mp e)
theorem encI_put (l : Row) (k : Str) (v : Int) : putK (encI l) (Sum.inr k) (.int v) = encI (put l k v) := by
  unfold putK put
  have e1 : ((encI l).any fun kv => decide (kv.1 = (Sum.inr k : Key))) = l.any fun e => decide (e.1 = k) := by
    unfold encI
    rw [List.any_map]
    congr 1
    funext e
    exact key_rr e.1 k
  rw [e1]
  split
  · unfold encI
    rw [List.map_map, List.map_map]
    apply List.map_congr_left
    intro e _
    show (if (Sum.inr e.1 : Key) = Sum.inr k then ((Sum.inr e.1 : Key), V.int v) else (Sum.inr e.1, V.int e.2)) = (Sum.inr (if e.1 = k then (e.1, v) else e).1, V.int (if e.1 = k then (e.1, v) else e).2)
    by_cases c : e.1 = k
    · simp [c]
    · simp [c]
  · unfold encI
    rw [List.map_append]
    rfl
theorem encI_len (l : Row) : (encI l).length = l.length := by simp [encI]
/-- places and their rows -/
abbrev Outer := List (Str × Addr)
def encO (bs : Outer) : List (Key × V) := bs.map fun p => (Sum.inr p.1, .ref p.2)
def addrOf (bs : Outer) (x : Str) : Option Addr := (bs.find? fun e => decide (e.1 = x)).map (·.2)
theorem addrOf_cons (x : Str) (y : Addr) (r : Outer) (k : Str) : addrOf ((x, y) :: r) k = if x = k then some y else addrOf r k := by
  unfold addrOf
  rw [List.find?_cons]
  by_cases h : x = k
  · rw [decide_eq_true h, if_pos h]; rfl
  · rw [decide_eq_false h, if_neg h]
theorem valV_encO (bs : Outer) (k : Str) : valV (encO bs) (Sum.inr k) = (addrOf bs k).map V.ref := by
  induction bs with
  | nil => rfl
  | cons e r ih =>
    obtain ⟨a, b⟩ := e
    show valV ((Sum.inr a, V.ref b) :: encO r) (Sum.inr k) = _
    rw [addrOf_cons]
    by_cases c : a = k
    · subst c; rw [valV_pos rfl, if_pos rfl]; rfl
    · rw [valV_neg (fun q => c (Sum.inr.inj q)), if_neg c]; exact ih
theorem addrOf_mem {bs : Outer} {x : Str} {b : Addr} (h : addrOf bs x = some b) : (x, b) ∈ bs := by
  induction bs with
  | nil => cases h
  | cons e r ih =>
    obtain ⟨a, b'⟩ := e
    rw [addrOf_cons] at h
    by_cases c : a = x
    · rw [if_pos c] at h; cases h; subst c; exact List.mem_cons_self
    · rw [if_neg c] at h; exact List.mem_cons_of_mem _ (ih h)
theorem addrOf_none {bs : Outer} {x : Str} : addrOf bs x = none ↔ x ∉ bs.map (·.1) := by
  induction bs with
  | nil => simp [addrOf]
  | cons e r ih =>
    obtain ⟨a, b⟩ := e
    rw [addrOf_cons]
    by_cases c : a = x
    · subst c; simp
    · rw [if_neg c, ih]
      have c' : ¬ x = a := fun q => c q.symm
      simp [c']
theorem addrOf_some {bs : Outer} {x : Str} (h : x ∈ bs.map (·.1)) : ∃ b, addrOf bs x = some b := by
  cases e : addrOf bs x with
  | none => exact absurd h (addrOf_none.mp e)
  | some b => exact ⟨b, rfl⟩
/-- a net stands at a, to be read -/
structure NetR (H : Hp) (a : Addr) (bs : Outer) (f : Str → Row) : Prop where
  out : Rd H a (.dK (encO bs))
  inn : ∀ p ∈ bs, Rd H p.2 (.dK (encI (f p.1)))
  ks : (bs.map (·.1)).Nodup
/-- .. of which all dicts are apart and not held -/
structure NetAt (H : Hp) (a : Addr) (bs : Outer) (f : Str → Row) : Prop where
  out : H a = some (.dK (encO bs))
  inn : ∀ p ∈ bs, H p.2 = some (.dK (encI (f p.1)))
  ks : (bs.map (·.1)).Nodup
  nd : (a :: bs.map (·.2)).Nodup
theorem NetAt.r {H : Hp} {a : Addr} {bs : Outer} {f : Str → Row} (n : NetAt H a bs f) : NetR H a bs f := ⟨.inl n.out, fun p hp => .inl (n.inn p hp), n.ks⟩
theorem NetR.sm {H H' : Hp} {a : Addr} {bs : Outer} {f : Str → Row} (n : NetR H a bs f) (s : Sm H H') : NetR H' a bs f := ⟨s.dK _ _ n.out, fun p hp => s.dK _ _ (n.inn p hp), n.ks⟩
theorem NetAt.same {H H' : Hp} {a : Addr} {bs : Outer} {f : Str → Row} (n : NetAt H a bs f) (s : Same H H') : NetAt H' a bs f := ⟨s _ _ n.out, fun p hp => s _ _ (n.inn p hp), n.ks, n.nd⟩
theorem NetR.keys {H : Hp} {a : Addr} {bs : Outer} {f : Str → Row} (n : NetR H a bs f) : keysS (encO bs) (bs.map (·.1)) := by
  unfold keysS encO; rw [List.map_map, List.map_map]; rfl
theorem keysS_encI (l : Row) : keysS (encI l) (l.map (·.1)) := by
  unfold keysS encI; rw [List.map_map, List.map_map]; rfl
/-- the data of a net -/
def netD (ks : List Str) (f : Str → Row) : D := .dct (ks.map fun x => (Sum.inr x, rowD (f x)))
theorem RepD.rowI (K : PySem.W.Frag) (H : Hp) : ∀ l : Row, RepD K H (encI l) (l.map fun e => (Sum.inr e.1, D.int e.2))
  | [] => .nil
  | (x, y) :: r => .cons (.int y) (RepD.rowI K H r)
theorem NetR.rep {K : PySem.W.Frag} {H : Hp} {a : Addr} {bs : Outer} {f : Str → Row} (n : NetR H a bs f) : Rep K H (.ref a) (netD (bs.map (·.1)) f) := by
  refine .dct n.out ?_
  have inn := n.inn
  clear n
  induction bs with
  | nil => exact .nil
  | cons p r ih => exact .cons (.dct (inn p List.mem_cons_self) (RepD.rowI K H _)) (ih fun q hq => inn q (List.mem_cons_of_mem _ hq))
theorem lookD_map (g : Str → D) : ∀ (ks : List Str) (x : Str), x ∈ ks → lookD (ks.map fun y => (Sum.inr y, g y)) (Sum.inr x) = some (g x)
  | [], _, h => by simp at h
  | k :: r, x, h => by
    unfold lookD
    rw [List.map_cons, List.find?_cons]
    by_cases c : k = x
    · subst c; simp
    · rw [decide_eq_false (fun q => c (Sum.inr.inj q))]
      exact lookD_map g r x ((List.mem_cons.mp h).resolve_left fun q => c q.symm)
theorem lookD_row : ∀ (l : Row) (x : Str), lookD (l.map fun e => (Sum.inr e.1, D.int e.2)) (Sum.inr x) = (look l x).map D.int
  | [], _ => rfl
  | (a, b) :: r, x => by
    have ih := lookD_row r x
    unfold lookD at ih ⊢
    rw [List.map_cons, List.find?_cons, look_cons]
    by_cases c : a = x
    · subst c; simp
    · rw [if_neg c, decide_eq_false (fun q => c (Sum.inr.inj q))]; exact ih
theorem rowD_deq {l l' : Row} (n : (l.map (·.1)).Nodup) (n' : (l'.map (·.1)).Nodup) (h : ∀ k, look l k = look l' k) : DEq (rowD l) (rowD l') := by
  refine .dct (fun k => match k with | .inl _ => .non | .inr x => .int ((look l' x).getD 0)) ?_ ?_ ?_
  · simpa using rows_len n n' h
  · intro k d hm
    obtain ⟨e, he, q⟩ := List.mem_map.mp hm
    cases q
    have hl := mem_look n (k := e.1) (v := e.2) he
    have hl' := hl
    rw [h] at hl'
    rw [lookD_row, hl']
    show some (D.int e.2) = some (D.int ((look l' e.1).getD 0))
    rw [hl']
    rfl
  · intro k d hm
    obtain ⟨e, he, q⟩ := List.mem_map.mp hm
    cases q
    show DEq (.int e.2) (.int ((look l' e.1).getD 0))
    rw [← h, mem_look n (k := e.1) (v := e.2) he]
    exact .same rfl
/-- nets of the same places with the same lines are equal -/
theorem netD_deq {ks ks' : List Str} {f f' : Str → Row} (p : ks.Perm ks') (n : ∀ x ∈ ks, ((f x).map (·.1)).Nodup) (n' : ∀ x ∈ ks', ((f' x).map (·.1)).Nodup) (h : ∀ x ∈ ks, ∀ k, look (f x) k = look (f' x) k) : DEq (netD ks f) (netD ks' f') := by
  refine .dct (fun k => match k with | .inl _ => .non | .inr x => rowD (f' x)) (by simpa using p.length_eq) ?_ ?_
  · intro k d hm
    obtain ⟨x, hx, q⟩ := List.mem_map.mp hm
    cases q
    exact lookD_map (fun y => rowD (f' y)) ks' x (p.mem_iff.mp hx)
  · intro k d hm
    obtain ⟨x, hx, q⟩ := List.mem_map.mp hm
    cases q
    exact rowD_deq (n x hx) (n' x (p.mem_iff.mp hx)) (h x hx)
theorem depD_le {es : List (Key × D)} {m : Nat} (h : ∀ k d, (k, d) ∈ es → d.dep ≤ m) : D.depD es ≤ m := by
  induction es with
  | nil => exact Nat.zero_le _
  | cons e r ih =>
    obtain ⟨k, d⟩ := e
    simp only [D.depD]
    have := h k d List.mem_cons_self
    have := ih fun k d hm => h k d (List.mem_cons_of_mem _ hm)
    omega
theorem netD_dep (ks : List Str) (f : Str → Row) : (netD ks f).dep ≤ 2 := by
  show D.depD _ + 1 ≤ 2
  refine Nat.succ_le_succ (depD_le fun k d hm => ?_)
  obtain ⟨x, hx, q⟩ := List.mem_map.mp hm
  cases q
  show D.depD _ + 1 ≤ 1
  refine Nat.succ_le_succ (depD_le fun k d hm => ?_)
  obtain ⟨e, he, q⟩ := List.mem_map.mp hm
  cases q
  exact Nat.zero_le _
end L2
namespace L2
open PySem PySem.Spec PyProof.Rows
theorem top_mk {K : PySem.W.Frag} {h : Heap} {mg : Str → Option Value} {nm : Str} {st : Stmt} {ps : List Str} {f : Addr} {oc : Value} {od an : Option Addr} {osl : Array (Option Value)} {kV doc pm cdv ct : Value} (X : K.In h) (G : h.Ns mainGlobals mg)
    (a : PySem.W.nsIn K mainGlobals nm = some (some (.ref f))) (l : K.lookup f = some ⟨oc, od, .func (PySem.W.fnOf nm nm (defArgs st) (defBody st) (defScope st) .none kV doc pm an cdv ct), osl⟩) (c : PySem.W.codeIn K cdv nm = true) (k : PySem.W.keepIn K (.ref f) = true)
    (hb : ∀ (kV doc pm : Value) (an : Option Addr) (cdv ct : Value) (us : List Value), us.length = ps.length → bindArgs (PySem.W.fnOf nm nm (defArgs st) (defBody st) (defScope st) .none kV doc pm an cdv ct) ⟨us, []⟩ = pure (ps.zip us)) :
    Top K mg nm st ps f (PySem.W.fnOf nm nm (defArgs st) (defBody st) (defScope st) .none kV doc pm an cdv ct) :=
  ⟨fun_mk (st := st) l c k, (fun_mk (st := st) l c k).binds hb, PySem.W.mg_of X G a⟩
end L2

set_option Elab.async false
set_option linter.all false
set_option maxRecDepth 100000
namespace L2
open PySem PySem.Spec PyProof.Rows
theorem iteD {p A B : Prop} [Decidable p] (h1 : p → A) (h2 : ¬ p → B) : if decide p = true then A else B := by
  by_cases h : p
  · rw [if_pos (decide_eq_true h)]; exact h1 h
  · rw [if_neg (by simpa using h)]; exact h2 h
/-- what a turn must reach -/
def NxC (n : Nat) (Pv : Nat → List V → Hp → Prop) (i : Nat) (ys : List V) (H : Hp) : Prop := ∃ m', m' < n - i ∧ m' = n - (i + 1) ∧ i + 1 ≤ n ∧ Pv (i + 1) ys H
theorem nxC {n : Nat} {Pv : Nat → List V → Hp → Prop} {i : Nat} {ys : List V} {H : Hp} (hlt : i < n) (p : Pv (i + 1) ys H) : NxC n Pv i ys H := ⟨_, by omega, rfl, hlt, p⟩
theorem comp_inv {J : It} {g : TG} {tt : TT} {te : TE} {σ' : St} {Post : VK} {H1 : Hp} (n : Nat) (Pv : Nat → List V → Hp → Prop) (h0 : Pv 0 [] H1) (hz : ∀ i ys H, Pv i ys H → ys.length < sizeLine)
    (hgo : ∀ i ys H, i < n → Pv i ys H → J.go i H ∧ ∀ x H', J.yld i H x H' → g x σ' H' fun σ2 H2 => tt σ2 H2 fun b H3 => if b = true then te σ2 H3 fun y H4 => NxC n Pv i (ys ++ [y]) H4 else NxC n Pv i ys H3)
    (hs : ∀ ys H, Pv n ys H → J.stop n H ∧ ∀ p, H p = none → Post (.ref p) (upd H p (.lst ys))) : CompVC J g tt te σ' Post H1 := by
  refine ⟨fun i m ys H => m = n - i ∧ i ≤ n ∧ Pv i ys H, ⟨n, rfl, Nat.zero_le _, h0⟩, ?_⟩
  rintro i m ys H ⟨rfl, hi, p⟩
  refine ⟨hz i ys H p, ?_⟩
  by_cases hlt : i < n
  · exact .inr (hgo i ys H hlt p)
  · have e : i = n := by omega
    subst e
    exact .inl (hs ys H p)
end L2

set_option Elab.async false
set_option linter.all false
set_option maxRecDepth 100000
set_option maxHeartbeats 4000000
/-! what the law's own helpers come to: names, nets, lines (own work) -/
namespace L2
open PySem PySem.Spec PyProof.Rows
/-! ### names -/
def isNm (x : Str) : Prop := 1 ≤ x.length ∧ x.length ≤ 8 ∧ ∀ c ∈ cs x, 97 ≤ c ∧ c ≤ 122
def lettersS : Str := "abcdefghijklmnopqrstuvwxyz"
theorem letters_cs : cs lettersS = (List.range 26).map (97 + ·) := by decide +kernel
theorem letter_at {j : Int} (h0 : 0 ≤ j) (h1 : j < 26) : atI (cs lettersS) j = some (97 + j.toNat) := by
  obtain ⟨k, rfl⟩ := Int.eq_ofNat_of_zero_le h0
  refine atI_nat ?_
  rw [letters_cs, List.getElem?_map, List.getElem?_range (by omega)]
  simp
theorem letter_mem {c : Nat} : c ∈ cs lettersS ↔ 97 ≤ c ∧ c ≤ 122 := by
  rw [letters_cs, List.mem_map]
  constructor
  · rintro ⟨k, hk, rfl⟩
    have := List.mem_range.mp hk
    omega
  · intro h
    exact ⟨c - 97, List.mem_range.mpr (by omega), by omega⟩
theorem sIx_of {n d : Nat} {i : Int} (h : 0 ≤ i) : HT.sIx n d (some i) = min i.toNat n := by
  obtain ⟨k, rfl⟩ := Int.eq_ofNat_of_zero_le h
  rw [HT.sIx_nat]; simp
theorem cut_lo (l : List Nat) {i : Int} (h : 0 ≤ i) : cutC l none (some i) = l.take i.toNat := by
  unfold cutC
  rw [HT.sIx_none, sIx_of h, List.drop_zero, Nat.sub_zero]
  rcases Nat.le_total i.toNat l.length with q | q
  · rw [Nat.min_eq_left q]
  · rw [Nat.min_eq_right q, List.take_of_length_le (Nat.le_refl _), List.take_of_length_le q]
theorem cut_hi (l : List Nat) {i : Int} (h : 0 ≤ i) : cutC l (some i) none = l.drop i.toNat := by
  unfold cutC
  rw [HT.sIx_none, sIx_of h]
  rcases Nat.le_total i.toNat l.length with q | q
  · rw [Nat.min_eq_left q]
    exact List.take_of_length_le (by rw [List.length_drop]; exact Nat.le_refl _)
  · rw [Nat.min_eq_right q]
    rw [List.drop_eq_nil_of_le (Nat.le_refl _), List.drop_eq_nil_of_le q]; simp
theorem cutS_lo (x : Str) {i : Int} (h : 0 ≤ i) : cs (cutS x none (some i)) = (cs x).take i.toNat := by
  unfold cutS; rw [cs_ofC, cut_lo _ h]
theorem cutS_hi (x : Str) {i : Int} (h : 0 ≤ i) : cs (cutS x (some i) none) = (cs x).drop i.toNat := by
  unfold cutS; rw [cs_ofC, cut_hi _ h]
/-- one name: a base, another sign put in, cut -/
theorem nm_made {base : Str} {at' n : Nat} {c : Nat} {x : Str} (hb : (cs base).length = 7) (hl : ∀ d ∈ cs base, 97 ≤ d ∧ d ≤ 122) (ha : at' ≤ 5) (hc : 97 ≤ c ∧ c ≤ 122) (hn : at' + 1 ≤ n) (hn8 : n ≤ 8)
    (hx : cs x = ((cs base).take at' ++ [c] ++ (cs base).drop at').take n) : isNm x ∧ (cs x)[at']? = some c := by
  have len : (cs x).length = n := by
    rw [hx, List.length_take, List.length_append, List.length_append, List.length_take, List.length_drop, hb]
    simp
    omega
  refine ⟨⟨by rw [← cs_len]; omega, by rw [← cs_len]; omega, fun d hd => ?_⟩, ?_⟩
  · rw [hx] at hd
    have := List.mem_of_mem_take hd
    simp only [List.mem_append, List.mem_singleton] at this
    rcases this with (h | h) | h
    · exact hl d (List.mem_of_mem_take h)
    · rw [h]; exact hc
    · exact hl d (List.mem_of_mem_drop h)
  · rw [hx, List.getElem?_take, if_pos (by omega), List.append_assoc, List.getElem?_append_right (by rw [List.length_take]; omega), List.length_take, hb, Nat.min_eq_left (by omega)]
    simp
/-- the names so far: the k-th has the sign at' + its own -/
def Nms (at' : Nat) (m : Int) (i : Nat) (ss : List Str) : Prop := ss.length = i ∧ ss.Nodup ∧ (∀ s ∈ ss, isNm s) ∧ ∀ s ∈ ss, ∃ j, j < i ∧ (cs s)[at']? = some (97 + ((m + (j : Int)) % 26).toNat)
theorem Nms.nil (at' : Nat) (m : Int) : Nms at' m 0 [] := ⟨rfl, List.nodup_nil, fun _ h => absurd h (by simp), fun _ h => absurd h (by simp)⟩
theorem Nms.snoc {at' : Nat} {m : Int} {i : Nat} {ss : List Str} {x : Str} (h : Nms at' m i ss) (hi : i < 26) (hx : isNm x) (hc : (cs x)[at']? = some (97 + ((m + (i : Int)) % 26).toNat)) : Nms at' m (i + 1) (ss ++ [x]) := by
  obtain ⟨h1, h2, h3, h4⟩ := h
  refine ⟨by simp [h1], nd_snoc h2 (fun hm => ?_), fun s hs => ?_, fun s hs => ?_⟩
  · obtain ⟨j, hj, e⟩ := h4 x hm
    rw [hc] at e
    have e := Option.some.inj e
    have a1 := Int.emod_nonneg (m + (i : Int)) (show (26 : Int) ≠ 0 by decide)
    have a2 := Int.emod_nonneg (m + (j : Int)) (show (26 : Int) ≠ 0 by decide)
    omega
  · rcases List.mem_append.mp hs with q | q
    · exact h3 s q
    · rw [List.mem_singleton.mp q]; exact hx
  · rcases List.mem_append.mp hs with q | q
    · obtain ⟨j, hj, e⟩ := h4 s q; exact ⟨j, by omega, e⟩
    · rw [List.mem_singleton.mp q]; exact ⟨i, by omega, hc⟩
/-! ### nets -/
structure GNet (ks : List Str) (f : Str → Row) (B : Int) : Prop where
  sym : ∀ x y, x ∈ ks → y ∈ ks → look (f x) y = look (f y) x
  irr : ∀ x, x ∈ ks → look (f x) x = none
  val : ∀ x y v, x ∈ ks → look (f x) y = some v → y ∈ ks ∧ 1 ≤ v ∧ v ≤ B
  nd : ∀ x, x ∈ ks → ((f x).map (·.1)).Nodup
theorem GNet.nil (ks : List Str) (B : Int) : GNet ks (fun _ => []) B := ⟨fun _ _ _ _ => rfl, fun _ _ => rfl, fun _ _ _ _ h => (by cases h), fun _ _ => List.nodup_nil⟩
def putR (f : Str → Row) (x y : Str) (v : Int) : Str → Row := fun z => if z = x then put (f x) y v else f z
theorem putR_at (f : Str → Row) (x y : Str) (v : Int) : putR f x y v x = put (f x) y v := by unfold putR; rw [if_pos rfl]
theorem putR_ne {f : Str → Row} {x y : Str} {v : Int} {z : Str} (h : z ≠ x) : putR f x y v z = f z := by unfold putR; rw [if_neg h]
/-- a line is laid both ways -/
def putB (f : Str → Row) (x y : Str) (v : Int) : Str → Row := putR (putR f x y v) y x v
theorem look_putB {f : Str → Row} {x y : Str} {v : Int} (h : x ≠ y) (a b : Str) : look (putB f x y v a) b = if (a = x ∧ b = y) ∨ (a = y ∧ b = x) then some v else look (f a) b := by
  unfold putB
  by_cases h1 : a = y
  · subst h1
    rw [putR_at, look_put, putR_ne (Ne.symm h)]
    by_cases h2 : x = b
    · subst h2; simp
    · have h2' : ¬ b = x := fun q => h2 q.symm
      have h3 : ¬ a = x := fun q => h q.symm
      simp [h2, h2', h3]
  · rw [putR_ne h1]
    by_cases h2 : a = x
    · subst h2
      rw [putR_at, look_put]
      by_cases h3 : y = b
      · subst h3; simp
      · have h3' : ¬ b = y := fun q => h3 q.symm
        simp [h3, h3', h1]
    · rw [putR_ne h2]; simp [h1, h2]
theorem putB_nd {f : Str → Row} {x y : Str} {v : Int} {a : Str} (hx : ((f x).map (·.1)).Nodup) (hy : ((f y).map (·.1)).Nodup) (ha : ((f a).map (·.1)).Nodup) (h : x ≠ y) : ((putB f x y v a).map (·.1)).Nodup := by
  unfold putB
  by_cases h1 : a = y
  · subst h1; rw [putR_at, putR_ne (Ne.symm h)]; exact put_nodup _ _ hy
  · rw [putR_ne h1]
    by_cases h2 : a = x
    · subst h2; rw [putR_at]; exact put_nodup _ _ hx
    · rw [putR_ne h2]; exact ha
theorem GNet.put {ks : List Str} {f : Str → Row} {B : Int} (g : GNet ks f B) {x y : Str} {v : Int} (hx : x ∈ ks) (hy : y ∈ ks) (h : x ≠ y) (h1 : 1 ≤ v) (h2 : v ≤ B) : GNet ks (putB f x y v) B := by
  refine ⟨fun a b ha hb => ?_, fun a ha => ?_, fun a b w ha hw => ?_, fun a ha => putB_nd (g.nd x hx) (g.nd y hy) (g.nd a ha) h⟩
  · rw [look_putB h, look_putB h]
    by_cases c : (a = x ∧ b = y) ∨ (a = y ∧ b = x)
    · rw [if_pos c, if_pos (by rcases c with ⟨p, q⟩ | ⟨p, q⟩ <;> simp [p, q])]
    · rw [if_neg c, if_neg (by rintro (⟨p, q⟩ | ⟨p, q⟩) <;> exact c (by simp [p, q]))]
      exact g.sym a b ha hb
  · rw [look_putB h, if_neg (by rintro (⟨p, q⟩ | ⟨p, q⟩) <;> exact h (by rw [← p, ← q]))]
    exact g.irr a ha
  · rw [look_putB h] at hw
    by_cases c : (a = x ∧ b = y) ∨ (a = y ∧ b = x)
    · rw [if_pos c] at hw
      cases hw
      refine ⟨?_, h1, h2⟩
      rcases c with ⟨p, q⟩ | ⟨p, q⟩
      · rw [q]; exact hy
      · rw [q]; exact hx
    · rw [if_neg c] at hw
      exact g.val a b w ha hw
/-! ### lines -/
abbrev Ln := Str × Str × Int
def norm (l : Ln) : Ln := if sLt l.1 l.2.1 then l else (l.2.1, l.1, l.2.2)
def lineD (l : Ln) : D := .tup [.str l.1, .str l.2.1, .int l.2.2]
def rowL (f : Str → Row) (x : Str) (ys : List Str) : List Ln := (ys.filter fun y => decide (sLt x y)).map fun y => (x, y, (look (f x) y).getD 0)
def linesF (ks : List Str) (f : Str → Row) : List Ln := (sortS ks).flatMap fun x => rowL f x (sortS ((f x).map (·.1)))
theorem mem_rowL {f : Str → Row} {x : Str} {ys : List Str} {l : Ln} : l ∈ rowL f x ys ↔ l.1 = x ∧ l.2.1 ∈ ys ∧ sLt x l.2.1 ∧ l.2.2 = (look (f x) l.2.1).getD 0 := by
  unfold rowL
  rw [List.mem_map]
  constructor
  · rintro ⟨y, hy, rfl⟩
    obtain ⟨a, b⟩ := List.mem_filter.mp hy
    exact ⟨rfl, a, of_decide_eq_true b, rfl⟩
  · rintro ⟨a, b, c, d⟩
    obtain ⟨l1, l2, l3⟩ := l
    exact ⟨l2, List.mem_filter.mpr ⟨b, decide_eq_true c⟩, by simp at a d; rw [a, d]⟩
theorem mem_linesF {ks : List Str} {f : Str → Row} {l : Ln} : l ∈ linesF ks f ↔ l.1 ∈ ks ∧ sLt l.1 l.2.1 ∧ look (f l.1) l.2.1 = some l.2.2 := by
  unfold linesF
  rw [List.mem_flatMap]
  constructor
  · rintro ⟨x, hx, hl⟩
    obtain ⟨a, b, c, d⟩ := mem_rowL.mp hl
    subst a
    refine ⟨mem_sortS.mp hx, c, ?_⟩
    obtain ⟨v, hv⟩ := look_some_iff.mpr (mem_sortS.mp b)
    rw [d, hv]; rfl
  · rintro ⟨a, b, c⟩
    refine ⟨l.1, mem_sortS.mpr a, mem_rowL.mpr ⟨rfl, mem_sortS.mpr (look_some_iff.mp ⟨_, c⟩), b, by rw [c]; rfl⟩⟩
theorem rowL_nodup {f : Str → Row} {x : Str} {ys : List Str} (h : ys.Nodup) : (rowL f x ys).Nodup := by
  unfold rowL
  refine List.Pairwise.map _ (fun a b hab e => ?_) (h.filter _)
  exact hab (by injection e with _ e; injection e)
theorem linesF_nodup {ks : List Str} {f : Str → Row} {B : Int} (hk : ks.Nodup) (g : GNet ks f B) : (linesF ks f).Nodup := by
  unfold linesF
  refine List.pairwise_flatMap.mpr ⟨fun x hx => rowL_nodup (sortS_nodup (g.nd x (mem_sortS.mp hx))), (sortS_nodup hk).imp fun {a b} hab l hl m hm e => ?_⟩
  subst e
  exact hab ((mem_rowL.mp hl).1.symm.trans (mem_rowL.mp hm).1)
/-- a line joins x and y by s -/
def Jn (ls : List Ln) (x y : Str) (s : Int) : Prop := (x, y, s) ∈ ls ∨ (y, x, s) ∈ ls
theorem norm_lt {x y : Str} {s : Int} (h : sLt x y) : norm (x, y, s) = (x, y, s) := by unfold norm; rw [if_pos h]
theorem norm_gt {x y : Str} {s : Int} (h : sLt y x) : norm (x, y, s) = (y, x, s) := by
  unfold norm; rw [if_neg (fun q => sLt_irrefl _ (sLt_trans h q))]
theorem norm_cases (l : Ln) : norm l = l ∨ norm l = (l.2.1, l.1, l.2.2) := by unfold norm; split <;> simp
/-- lines as they may be told, of the net f over ks -/
structure LinesOf (ks : List Str) (f : Str → Row) (B : Int) (ls : List Ln) : Prop where
  perm : (ls.map norm).Perm (linesF ks f)
section
variable {ks : List Str} {f : Str → Row} {B : Int} {ls : List Ln}
theorem LinesOf.jn (h : LinesOf ks f B ls) (g : GNet ks f B) {x y : Str} {s : Int} (hx : x ∈ ks) (hy : y ∈ ks) : Jn ls x y s ↔ look (f x) y = some s := by
  have key : ∀ l : Ln, l ∈ ls.map norm ↔ l.1 ∈ ks ∧ sLt l.1 l.2.1 ∧ look (f l.1) l.2.1 = some l.2.2 := fun l => (h.perm.mem_iff).trans mem_linesF
  constructor
  · rintro (q | q)
    · have := (key _).mp (List.mem_map.mpr ⟨_, q, rfl⟩)
      rcases norm_cases (x, y, s) with e | e
      · rw [e] at this; exact this.2.2
      · rw [e] at this; rw [g.sym x y hx hy]; exact this.2.2
    · have := (key _).mp (List.mem_map.mpr ⟨_, q, rfl⟩)
      rcases norm_cases (y, x, s) with e | e
      · rw [e] at this; rw [g.sym x y hx hy]; exact this.2.2
      · rw [e] at this; exact this.2.2
  · intro q
    have ne : x ≠ y := by rintro rfl; rw [g.irr x hx] at q; cases q
    have fin : ∀ l : Ln, l ∈ ls → norm l = (x, y, s) ∨ norm l = (y, x, s) → Jn ls x y s := fun l hl hn => by
      obtain ⟨a, b, c⟩ := l
      rcases norm_cases (a, b, c) with e | e <;> rw [e] at hn <;> rcases hn with hn | hn <;> cases hn
      · exact .inl hl
      · exact .inr hl
      · exact .inr hl
      · exact .inl hl
    rcases sLt_or (a := x) (b := y) with c | c | c
    · obtain ⟨l, hl, e⟩ := List.mem_map.mp ((key (x, y, s)).mpr ⟨hx, c, q⟩)
      exact fin l hl (.inl e)
    · exact absurd c ne
    · obtain ⟨l, hl, e⟩ := List.mem_map.mp ((key (y, x, s)).mpr ⟨hy, c, by rw [g.sym y x hy hx]; exact q⟩)
      exact fin l hl (.inr e)
theorem LinesOf.mem (h : LinesOf ks f B ls) (g : GNet ks f B) {l : Ln} (hl : l ∈ ls) : l.1 ∈ ks ∧ l.2.1 ∈ ks ∧ l.1 ≠ l.2.1 ∧ 1 ≤ l.2.2 ∧ l.2.2 ≤ B := by
  have := mem_linesF.mp (h.perm.mem_iff.mp (List.mem_map.mpr ⟨_, hl, rfl⟩))
  obtain ⟨a, b, c⟩ := l
  rcases norm_cases (a, b, c) with e | e <;> rw [e] at this <;> obtain ⟨p, q, r⟩ := this <;> obtain ⟨p2, p3, p4⟩ := g.val _ _ _ p r
  · exact ⟨p, p2, fun z => sLt_irrefl _ (by simpa [show a = b from z] using q), p3, p4⟩
  · exact ⟨p2, p, fun z => sLt_irrefl _ (by simpa [show a = b from z] using q), p3, p4⟩
/-- no two lines join the same places -/
def Apart (ls : List Ln) : Prop := ∀ (i j : Nat) (l m : Ln), ls[i]? = some l → ls[j]? = some m → i < j → ¬ ((l.1 = m.1 ∧ l.2.1 = m.2.1) ∨ (l.1 = m.2.1 ∧ l.2.1 = m.1))
theorem norm_eq_of {l m : Ln} (hne : l.1 ≠ l.2.1) (h : (l.1 = m.1 ∧ l.2.1 = m.2.1) ∨ (l.1 = m.2.1 ∧ l.2.1 = m.1)) (hs : l.2.2 = m.2.2) : norm l = norm m := by
  obtain ⟨a, b, c⟩ := l
  obtain ⟨a', b', c'⟩ := m
  simp only at h hs hne
  subst hs
  rcases h with ⟨rfl, rfl⟩ | ⟨rfl, rfl⟩
  · rfl
  · rcases sLt_or (a := a) (b := b) with q | q | q
    · rw [norm_lt q, norm_gt q]
    · exact absurd q hne
    · rw [norm_gt q, norm_lt q]
theorem LinesOf.apart (h : LinesOf ks f B ls) (g : GNet ks f B) (hk : ks.Nodup) : Apart ls := by
  intro i j l m hi hj hij c
  have hl := List.mem_of_getElem? hi
  have hm := List.mem_of_getElem? hj
  obtain ⟨l1, l2, l3, _⟩ := h.mem g hl
  have nd : (ls.map norm).Nodup := (h.perm.nodup_iff).mpr (linesF_nodup hk g)
  have a1 := (h.jn g (x := l.1) (y := l.2.1) (s := l.2.2) l1 l2).mp (.inl hl)
  have a2 : look (f l.1) l.2.1 = some m.2.2 := (h.jn g l1 l2).mp (by
    obtain ⟨a, b, c'⟩ := l
    obtain ⟨a', b', c''⟩ := m
    rcases c with ⟨p, q⟩ | ⟨p, q⟩
    · left; simp only at p q ⊢; rw [p, q]; exact hm
    · right; simp only at p q ⊢; rw [p, q]; exact hm)
  have es : l.2.2 = m.2.2 := Option.some.inj (a1.symm.trans a2)
  have en := norm_eq_of l3 c es
  have p := List.pairwise_iff_getElem.mp nd
  obtain ⟨hi', ei⟩ := List.getElem?_eq_some_iff.mp hi
  obtain ⟨hj', ej⟩ := List.getElem?_eq_some_iff.mp hj
  have := p i j (by simpa using hi') (by simpa using hj') hij
  rw [List.getElem_map, List.getElem_map, ei, ej] at this
  exact this en
end
theorem Jn.snoc {ls : List Ln} {l : Ln} {x y : Str} {s : Int} : Jn (ls ++ [l]) x y s ↔ Jn ls x y s ∨ ((x = l.1 ∧ y = l.2.1) ∨ (x = l.2.1 ∧ y = l.1)) ∧ s = l.2.2 := by
  obtain ⟨a, b, c⟩ := l
  unfold Jn
  simp only [List.mem_append, List.mem_singleton, Prod.mk.injEq]
  constructor
  · rintro ((h | ⟨h1, h2, h3⟩) | (h | ⟨h1, h2, h3⟩))
    · exact .inl (.inl h)
    · exact .inr ⟨.inl ⟨h1, h2⟩, h3⟩
    · exact .inl (.inr h)
    · exact .inr ⟨.inr ⟨h2, h1⟩, h3⟩
  · rintro ((h | h) | ⟨⟨h1, h2⟩ | ⟨h1, h2⟩, h3⟩)
    · exact .inl (.inl h)
    · exact .inr (.inl h)
    · exact .inl (.inr ⟨h1, h2, h3⟩)
    · exact .inr (.inr ⟨h2, h1, h3⟩)
/-- the net that the lines make, so far -/
structure MNet (ss : List Str) (ls : List Ln) (g : Str → Row) : Prop where
  jn : ∀ x y s, x ∈ ss → (look (g x) y = some s ↔ Jn ls x y s)
  nd : ∀ x, x ∈ ss → ((g x).map (·.1)).Nodup
theorem MNet.nil (ss : List Str) : MNet ss [] (fun _ => []) := ⟨fun _ _ _ _ => ⟨fun h => (by cases h), fun h => by rcases h with h | h <;> simp at h⟩, fun _ _ => List.nodup_nil⟩
theorem MNet.put {ss : List Str} {ls : List Ln} {g : Str → Row} (h : MNet ss ls g) {l : Ln} (h1 : l.1 ∈ ss) (h2 : l.2.1 ∈ ss) (hne : l.1 ≠ l.2.1) (hno : look (g l.1) l.2.1 = none) : MNet ss (ls ++ [l]) (putB g l.1 l.2.1 l.2.2) := by
  refine ⟨fun x y s hx => ?_, fun x hx => putB_nd (h.nd _ h1) (h.nd _ h2) (h.nd _ hx) hne⟩
  have no : ∀ t, ¬ Jn ls l.1 l.2.1 t := fun t q => by have := (h.jn _ _ _ h1).mpr q; rw [hno] at this; cases this
  rw [Jn.snoc, look_putB hne, ← h.jn x y s hx]
  by_cases c : (x = l.1 ∧ y = l.2.1) ∨ (x = l.2.1 ∧ y = l.1)
  · rw [if_pos c]
    constructor
    · intro e; exact .inr ⟨c, (Option.some.inj e).symm⟩
    · rintro (e | ⟨_, e⟩)
      · exfalso
        have := (h.jn x y s hx).mp e
        rcases c with ⟨p, q⟩ | ⟨p, q⟩
        · rw [p, q] at this; exact no s this
        · rw [p, q] at this; exact no s this.symm
      · rw [e]
  · rw [if_neg c]
    constructor
    · exact .inl
    · rintro (e | ⟨e, _⟩)
      · exact e
      · exact absurd e c
theorem MNet.none {ss : List Str} {ls : List Ln} {g : Str → Row} {i : Nat} {l : Ln} (h : MNet ss (ls.take i) g) (ap : Apart ls) (hi : ls[i]? = some l) (h1 : l.1 ∈ ss) : look (g l.1) l.2.1 = none := by
  cases e : look (g l.1) l.2.1 with
  | none => rfl
  | some s =>
    exfalso
    have get : ∀ m : Ln, m ∈ ls.take i → ∃ j, j < i ∧ ls[j]? = some m := fun m hm => by
      obtain ⟨j, hj⟩ := List.getElem?_of_mem hm
      rw [List.getElem?_take] at hj
      by_cases c : j < i
      · rw [if_pos c] at hj; exact ⟨j, c, hj⟩
      · rw [if_neg c] at hj; cases hj
    rcases (h.jn _ _ _ h1).mp e with q | q
    · obtain ⟨j, hj, ej⟩ := get _ q
      exact ap j i _ _ ej hi hj (.inl ⟨rfl, rfl⟩)
    · obtain ⟨j, hj, ej⟩ := get _ q
      exact ap j i _ _ ej hi hj (.inr ⟨rfl, rfl⟩)
/-- made of the lines of f it has the lines of f -/
theorem MNet.same {ks ss : List Str} {f g : Str → Row} {B : Int} {ls : List Ln} (m : MNet ss ls g) (h : LinesOf ks f B ls) (gn : GNet ks f B) (p : ss.Perm ks) {x : Str} (hx : x ∈ ss) (y : Str) : look (g x) y = look (f x) y := by
  have hx' := p.mem_iff.mp hx
  apply Option.ext
  intro s
  rw [m.jn x y s hx]
  constructor
  · intro q
    have hy : y ∈ ks := by
      rcases q with q | q
      · exact (h.mem gn q).2.1
      · exact (h.mem gn q).1
    exact (h.jn gn hx' hy).mp q
  · intro q
    have hy := (gn.val _ _ _ hx' q).1
    exact (h.jn gn hx' hy).mpr q
end L2

set_option Elab.async false
set_option linter.all false
set_option maxRecDepth 100000
set_option maxHeartbeats 4000000
/-! steps on a net's dicts (own work) -/
namespace L2
open PySem PySem.Spec PyProof.Rows
theorem nd_len {α : Type} [DecidableEq α] : ∀ {l m : List α}, l.Nodup → (∀ x ∈ l, x ∈ m) → l.length ≤ m.length
  | [], _, _, _ => Nat.zero_le _
  | x :: r, m, h, s => by
    obtain ⟨h1, h2⟩ := List.nodup_cons.mp h
    have hx := s x List.mem_cons_self
    have := nd_len (l := r) (m := m.erase x) h2 (fun y hy => (List.mem_erase_of_ne (fun (e : y = x) => h1 (by rw [← e]; exact hy))).mpr (s y (List.mem_cons_of_mem _ hy)))
    rw [List.length_erase_of_mem hx] at this
    have := List.length_pos_of_mem hx
    rw [List.length_cons]
    omega
theorem nd_inj {α β : Type} {g : α → β} : ∀ {l : List α} {a b : α}, (l.map g).Nodup → a ∈ l → b ∈ l → g a = g b → a = b
  | [], _, _, _, h, _, _ => by simp at h
  | x :: r, a, b, hn, ha, hb, e => by
    rw [List.map_cons] at hn
    obtain ⟨h1, h2⟩ := List.nodup_cons.mp hn
    rcases List.mem_cons.mp ha with p | p <;> rcases List.mem_cons.mp hb with q | q
    · rw [p, q]
    · subst p; exact absurd (List.mem_map.mpr ⟨b, q, e.symm⟩) h1
    · subst q; exact absurd (List.mem_map.mpr ⟨a, p, e⟩) h1
    · exact nd_inj h2 p q e
section
variable {H H' : Hp} {a : Addr} {bs : Outer} {f : Str → Row} {x y : Str} {b : Addr}
theorem mem_addrOf (hk : (bs.map (·.1)).Nodup) (h : (x, b) ∈ bs) : addrOf bs x = some b := by
  obtain ⟨c, hc⟩ := addrOf_some (List.mem_map.mpr ⟨_, h, rfl⟩)
  have := nd_inj hk (addrOf_mem hc) h rfl
  rw [hc]
  exact congrArg some (congrArg Prod.snd this)
theorem NetR.dget (n : NetR H a bs f) (h : addrOf bs x = some b) : DGet H a (.str x) (some (.ref b)) := .inl ⟨_, Sum.inr x, n.out, rfl, by rw [valV_encO, h]; rfl⟩
theorem NetR.rget (n : NetR H a bs f) (h : addrOf bs x = some b) : DGet H b (.str y) ((look (f x) y).map V.int) := .inl ⟨_, Sum.inr y, n.inn _ (addrOf_mem h), rfl, by rw [valV_enc]⟩
theorem NetR.rget' (n : NetR H a bs f) (h : addrOf bs x = some b) {v : Int} (e : look (f x) y = some v) : DGet H b (.str y) (some (.int v)) := by have := n.rget (y := y) h; rw [e] at this; exact this
theorem NetAt.ne (n : NetAt H a bs f) (h : addrOf bs x = some b) : b ≠ a := fun e => by
  have := (List.nodup_cons.mp n.nd).1
  exact this (e ▸ List.mem_map.mpr ⟨_, addrOf_mem h, rfl⟩)
theorem NetAt.put (n : NetAt H a bs f) (h : addrOf bs x = some b) (v : Int) (y : Str) (hl : (f x).length < sizeLine) : DPut H b (.str y) (.int v) (upd H b (.dK (encI (put (f x) y v)))) ∧ NetAt (upd H b (.dK (encI (put (f x) y v)))) a bs (putR f x y v) := by
  have hb := n.inn _ (addrOf_mem h)
  have p := DPut.k (k := Sum.inr y) (v := .int v) hb (by rw [encI_len]; exact hl)
  rw [encI_put] at p
  refine ⟨p, ?_, fun q hq => ?_, n.ks, n.nd⟩
  · rw [upd_ne (n.ne h).symm]; exact n.out
  · by_cases e : q.2 = b
    · have : q = (x, b) := nd_inj (List.nodup_cons.mp n.nd).2 hq (addrOf_mem h) e
      subst this
      rw [upd_same, putR_at]
    · rw [upd_ne e, putR_ne (fun z => e ?_)]
      · exact n.inn q hq
      · have : q = (x, b) := nd_inj n.ks hq (addrOf_mem h) z
        rw [this]
theorem encO_put (h : x ∉ bs.map (·.1)) : putK (encO bs) (Sum.inr x) (.ref b) = encO (bs ++ [(x, b)]) := by
  rw [putK_new]
  · unfold encO; rw [List.map_append]; rfl
  · rw [valV_encO, addrOf_none.mpr h]; rfl
theorem NetAt.add (n : NetAt H a bs f) (hx : x ∉ bs.map (·.1)) (hp : H b = none) (hl : bs.length < sizeLine) (hf : f x = []) :
    DPut (upd H b (.dK [])) a (.str x) (.ref b) (upd (upd H b (.dK [])) a (.dK (encO (bs ++ [(x, b)])))) ∧ NetAt (upd (upd H b (.dK [])) a (.dK (encO (bs ++ [(x, b)])))) a (bs ++ [(x, b)]) f := by
  have ab : a ≠ b := ne_of_none n.out hp
  have hn : ∀ q ∈ bs, q.2 ≠ b := fun q hq => ne_of_none (n.inn q hq) hp
  have p := DPut.k (H := upd H b (.dK [])) (k := Sum.inr x) (v := .ref b) (by rw [upd_ne ab]; exact n.out) (by unfold encO; rw [List.length_map]; exact hl)
  rw [encO_put hx] at p
  refine ⟨p, upd_same, fun q hq => ?_, ?_, ?_⟩
  · rcases List.mem_append.mp hq with c | c
    · have h1 : q.2 ≠ a := fun e => (List.nodup_cons.mp n.nd).1 (e ▸ List.mem_map.mpr ⟨_, c, rfl⟩)
      rw [upd_ne h1, upd_ne (hn q c)]; exact n.inn q c
    · rw [List.mem_singleton.mp c]
      show upd _ _ _ b = some (.dK (encI (f x)))
      rw [upd_ne ab.symm, upd_same, hf]; rfl
  · rw [List.map_append]; exact nd_snoc n.ks hx
  · rw [List.map_append, ← List.cons_append]
    refine nd_snoc n.nd (fun h => ?_)
    rcases List.mem_cons.mp h with e | e
    · exact ab e.symm
    · obtain ⟨q, hq, e⟩ := List.mem_map.mp e
      exact hn q hq e
end
/-- all of a net's addresses are new since H -/
def New (H : Hp) (a : Addr) (bs : Outer) : Prop := H a = none ∧ ∀ p ∈ bs, H p.2 = none
theorem New.same {H H' : Hp} {a : Addr} {bs : Outer} (n : New H' a bs) (s : Same H H') : New H a bs := ⟨s.free n.1, fun p hp => s.free (n.2 p hp)⟩
theorem NetR.row {H : Hp} {a : Addr} {bs : Outer} {f : Str → Row} (n : NetR H a bs f) {x : Str} (hx : x ∈ bs.map (·.1)) : ∃ b, addrOf bs x = some b ∧ Rd H b (.dK (encI (f x))) := by
  obtain ⟨b, h⟩ := addrOf_some hx
  exact ⟨b, h, n.inn _ (addrOf_mem h)⟩
/-- a Python list of lines -/
def LinesAt (K : PySem.W.Frag) (H : Hp) (p : Addr) (ls : List Ln) : Prop := ∃ xs, H p = some (.lst xs) ∧ Reps K H xs (ls.map lineD)
theorem LinesAt.same {K : PySem.W.Frag} {H H' : Hp} {p : Addr} {ls : List Ln} (h : LinesAt K H p ls) (s : Same H H') : LinesAt K H' p ls := by
  obtain ⟨xs, a, b⟩ := h; exact ⟨xs, s _ _ a, b.sm s.sm⟩
theorem Reps.line {K : PySem.W.Frag} {H : Hp} {xs : List V} {ls : List Ln} {i : Nat} {v : V} (h : Reps K H xs (ls.map lineD)) (e : xs[i]? = some v) : ∃ l a, ls[i]? = some l ∧ v = .ref a ∧ SqT K H a [.str l.1, .str l.2.1, .int l.2.2] := by
  obtain ⟨d, hd, r⟩ := h.get' e
  rw [List.getElem?_map] at hd
  cases q : ls[i]? with
  | none => rw [q] at hd; cases hd
  | some l =>
    rw [q] at hd
    cases hd
    unfold lineD at r
    cases r with
    | tup h1 h2 =>
      cases h2 with
      | cons a t => cases t with
        | cons b t => cases t with
          | cons c t => cases t; cases a; cases b; cases c; exact ⟨l, _, rfl, rfl, h1⟩
theorem Reps.perm {K : PySem.W.Frag} {H : Hp} {xs ys : List V} {ds : List D} (p : ys.Perm xs) (h : Reps K H xs ds) : ∃ es : List D, es.Perm ds ∧ Reps K H ys es := by
  induction p generalizing ds with
  | nil => cases h; exact ⟨[], .nil, .nil⟩
  | cons x _ ih =>
    cases h with
    | cons a t => obtain ⟨es, p1, p2⟩ := ih t; exact ⟨_ :: es, p1.cons _, .cons a p2⟩
  | swap x y l =>
    cases h with
    | cons a t => cases t with
      | cons b t => exact ⟨_ :: _ :: _, .swap _ _ _, .cons b (.cons a t)⟩
  | trans _ _ ih1 ih2 =>
    obtain ⟨es, p1, p2⟩ := ih2 h
    obtain ⟨es', p3, p4⟩ := ih1 p2
    exact ⟨es', p3.trans p1, p4⟩
theorem perm_map_inv {α β : Type} {g : α → β} {l : List α} {m : List β} (p : m.Perm (l.map g)) : ∃ l' : List α, l'.Perm l ∧ l'.map g = m := by
  generalize hm : l.map g = m' at p
  induction p generalizing l with
  | nil => exact ⟨[], by cases l with | nil => exact .nil | cons _ _ => simp at hm, rfl⟩
  | cons x _ ih =>
    cases l with
    | nil => simp at hm
    | cons a r =>
      simp at hm
      obtain ⟨l', p1, p2⟩ := ih hm.2
      exact ⟨a :: l', p1.cons _, by simp [p2, hm.1]⟩
  | swap x y l0 =>
    cases l with
    | nil => simp at hm
    | cons a r =>
      cases r with
      | nil => simp at hm
      | cons b r =>
        simp at hm
        exact ⟨b :: a :: r, .swap _ _ _, by simp [hm]⟩
  | trans _ _ ih1 ih2 =>
    obtain ⟨l1, p1, p2⟩ := ih2 hm
    obtain ⟨l2, p3, p4⟩ := ih1 p2
    exact ⟨l2, p3.trans p1, p4⟩
theorem LinesAt.perm {K : PySem.W.Frag} {H : Hp} {xs ys : List V} {ls : List Ln} (h : Reps K H xs (ls.map lineD)) (p : ys.Perm xs) : ∃ ms : List Ln, ms.Perm ls ∧ Reps K H ys (ms.map lineD) := by
  obtain ⟨es, p1, p2⟩ := Reps.perm p h
  obtain ⟨ms, p3, p4⟩ := perm_map_inv p1
  exact ⟨ms, p3, by rw [p4]; exact p2⟩
end L2

set_option Elab.async false
set_option linter.all false
set_option maxRecDepth 100000
set_option maxHeartbeats 4000000
namespace L2
open PySem PySem.Spec PyProof.Rows
/-- a test without else: both ways meet -/
theorem ifJ {b : Bool} {t : TS} {D : Ends} {σ : St} {H : Hp} (R : St → Hp → Prop) (hN : ∀ σ H, R σ H → D.nx σ H) (hA : b = true → (∀ σ H, R σ H → D.nx σ H) → t D σ H) (hB : b = false → R σ H) : if b = true then t D σ H else tNext D σ H := by
  cases b with
  | true => rw [if_pos rfl]; exact hA rfl hN
  | false => rw [if_neg (by simp)]; exact hN _ _ (hB rfl)
theorem sz {n : Nat} (h : n ≤ 1000) : n ≤ sizeLine := Nat.le_of_lt (small1000 h)
theorem szl {n : Nat} (h : n ≤ 1000) : n < sizeLine := small1000 h
theorem atI0 {α : Type} {x y : α} : atI [x, y] 0 = some x := rfl
theorem atI1 {α : Type} {x y : α} : atI [x, y] 1 = some y := rfl
theorem atI_ix {α β : Type} {g : α → β} {l : List α} {i : Int} (h0 : 0 ≤ i) (h1 : i < l.length) : ∃ x, x ∈ l ∧ l[i.toNat]? = some x ∧ atI (l.map g) i = some (g x) := by
  obtain ⟨k, rfl⟩ := Int.eq_ofNat_of_zero_le h0
  have hk : k < l.length := by omega
  refine ⟨l[k], List.getElem_mem hk, by simp [hk], atI_nat (by simp [hk])⟩
/-- a net that grows over what was there at H -/
def NS (H : Hp) (p : Addr) (ks : List Str) (B : Int) (H2 : Hp) : Prop := ∃ bs f, Same H H2 ∧ NetAt H2 p bs f ∧ bs.map (·.1) = ks ∧ New H p bs ∧ GNet ks f B
theorem Same.netput {H H2 : Hp} {p b : Addr} {bs : Outer} {x : Str} {o : HO} (s : Same H H2) (n : New H p bs) (h : addrOf bs x = some b) : Same H (L2.upd H2 b o) := s.upd (n.2 _ (addrOf_mem h))
theorem row_len {ks : List Str} {f : Str → Row} {B : Int} (g : GNet ks f B) {x : Str} (hx : x ∈ ks) (hk : ks.length ≤ 1000) : (f x).length < sizeLine := by
  refine szl ?_
  have : ((f x).map (·.1)).length ≤ ks.length := nd_len (g.nd x hx) fun y hy => by
    obtain ⟨v, hv⟩ := look_some_iff.mpr hy
    exact (g.val x y v hx hv).1
  rw [List.length_map] at this
  omega
end L2

set_option Elab.async false
set_option linter.all false
set_option maxRecDepth 100000
set_option maxHeartbeats 4000000
namespace L2
open PySem PySem.Spec PyProof.Rows
def mixF (c k : Int) : Int :=
  let n := (c % 2147483647 + 7919 * k + 1) * 48271 % 2147483647
  let m := (n * n + k) % 2147483629
  m * m % 2147483587
theorem mixF_lo (c k : Int) : 0 ≤ mixF c k := Int.emod_nonneg _ (by decide)
theorem mixF_hi (c k : Int) : mixF c k < 2147483587 := Int.emod_lt_of_pos _ (by decide)
def isStr : D → Bool | .str _ => true | _ => false
theorem isiB_str (d : D) : isiB d.ty "str" = isStr d := by cases d <;> rfl
def nameD : D → Bool
  | .str x => decide (1 ≤ x.length) && decide (x.length ≤ 8) && (cs x).all fun c => decide (c ∈ cs lettersS)
  | _ => false
theorem nameD_of {x : Str} (h : isNm x) : nameD (.str x) = true := by
  obtain ⟨h1, h2, h3⟩ := h
  simp only [nameD, Bool.and_eq_true, decide_eq_true_eq, List.all_eq_true]
  exact ⟨⟨h1, h2⟩, fun c hc => letter_mem.mpr (h3 c hc)⟩
theorem glue_cs (sep : Str) : ∀ (rest : List Str) (acc : Array Nat), (rest.foldl (fun acc p => acc ++ sep.cps ++ p.cps) acc).toList = acc.toList ++ (rest.map fun y => cs sep ++ cs y).flatten
  | [], acc => by simp
  | y :: r, acc => by rw [List.foldl_cons, glue_cs sep r, List.map_cons, List.flatten_cons]; simp [cs]
theorem join_cs (sep x : Str) (rest : List Str) : cs (joinS sep (x :: rest)) = cs x ++ (rest.map fun y => cs sep ++ cs y).flatten := by
  show Array.toList (List.foldl (fun acc (p : Str) => acc ++ sep.cps ++ p.cps) x.cps rest) = _
  exact glue_cs sep rest x.cps
theorem cs_empty : cs "" = [] := by decide +kernel
theorem join_signs : ∀ l : List Nat, cs (joinS "" (l.map fun c => ⟨#[c]⟩)) = l
  | [] => rfl
  | c :: r => by
    rw [List.map_cons, join_cs, List.map_map]
    have : ∀ m : List Nat, (m.map ((fun y => cs "" ++ cs y) ∘ fun c => (⟨#[c]⟩ : Str))).flatten = m := fun m => by
      induction m with
      | nil => rfl
      | cons d m ih => rw [List.map_cons, List.flatten_cons, ih]; simp [cs_empty]; rfl
    rw [this]; rfl
theorem cutS_len (x : Str) (lo hi : Option Int) : (cutS x lo hi).length ≤ x.length := by
  rw [← cs_len, ← cs_len]; unfold cutS; rw [cs_ofC]; exact cutC_len _ _ _
theorem str_len (x y : Str) : (x ++ y).length = x.length + y.length := by rw [← cs_len, cs_append, List.length_append, cs_len, cs_len]
theorem pick2b {P : Int → Prop} {x y c : Int} (hx : P x) (hy : P y) : ∃ v, P v ∧ atI [V.int x, V.int y] (c % 2) = some (V.int v) := by
  have : c % 2 = 0 ∨ c % 2 = 1 := by omega
  rcases this with h | h <;> rw [h]
  · exact ⟨x, hx, rfl⟩
  · exact ⟨y, hy, rfl⟩
theorem Reps.tups {K : PySem.W.Frag} {H H' : Hp} (h : ∀ a zs, SqT K H a zs → SqT K H' a zs) : ∀ {ls : List Ln} {xs : List V}, Reps K H xs (ls.map lineD) → Reps K H' xs (ls.map lineD)
  | [], _, r => by cases r; exact .nil
  | l :: ls, _, r => by
    rw [List.map_cons] at r ⊢
    cases r with
    | cons a t =>
      refine .cons ?_ (Reps.tups h t)
      unfold lineD at a ⊢
      cases a with
      | tup h1 h2 =>
        cases h2 with
        | cons p1 t1 => cases t1 with
          | cons p2 t2 => cases t2 with
            | cons p3 t3 => cases t3; cases p1; cases p2; cases p3; exact .tup (h _ _ h1) (.cons (.str _) (.cons (.str _) (.cons (.int _) .nil)))
/-- a line is put behind the others -/
theorem LinesAt.snoc {K : PySem.W.Frag} {H : Hp} {p t : Addr} {xs : List V} {ls : List Ln} (h1 : H p = some (.lst xs)) (h2 : Reps K H xs (ls.map lineD)) (ht : H t = none) (l : Ln) :
    LinesAt K (upd (upd H t (.tup [.str l.1, .str l.2.1, .int l.2.2])) p (.lst (xs ++ [.ref t]))) p (ls ++ [l]) := by
  have tp : t ≠ p := fun e => by rw [e, h1] at ht; cases ht
  refine ⟨_, upd_same, ?_⟩
  rw [List.map_append]
  refine Reps.append (Reps.tups (fun a zs q => ?_) h2) (.cons (.tup (.inl (.inl ?_)) (.cons (.str _) (.cons (.str _) (.cons (.int _) .nil)))) .nil)
  · rcases q with q | q
    · have ap : a ≠ p := fun e => by
        subst e
        rcases q with q | ⟨o, q⟩ <;> rw [h1] at q <;> cases q
      have at' : a ≠ t := fun e => by
        subst e
        rcases q with q | ⟨o, q⟩ <;> rw [ht] at q <;> cases q
      rcases q with q | ⟨o, q⟩
      · exact .inl (.inl (by rw [upd_ne ap, upd_ne at']; exact q))
      · exact .inl (.inr ⟨o, by rw [upd_ne ap, upd_ne at']; exact q⟩)
    · exact .inr q
  · rw [upd_ne tp, upd_same]
def hasD (kvs : List (Key × V)) : D → Bool | .str x => (valV kvs (Sum.inr x)).isSome | _ => false
theorem sz' {n : Nat} (h : n ≤ 10000) : n ≤ sizeLine := Nat.le_trans h (by decide)
theorem optget (o : Option Int) : (o.map V.int).getD (.int 0) = .int (o.getD 0) := by cases o <;> rfl
def seenK (ss : List Str) : List (Key × V) := ss.map fun s => (Sum.inr s, .bl true)
theorem seen_none {ss : List Str} {s : Str} (h : s ∉ ss) : valV (seenK ss) (Sum.inr s) = none := by
  induction ss with
  | nil => rfl
  | cons x r ih =>
    show valV ((Sum.inr x, V.bl true) :: seenK r) (Sum.inr s) = none
    rw [valV_neg (fun e => h (by rw [Sum.inr.inj e]; exact List.mem_cons_self))]
    exact ih fun hm => h (List.mem_cons_of_mem _ hm)
theorem nodup_take {α : Type} {l : List α} {i : Nat} {x : α} (h : l.Nodup) (e : l[i]? = some x) : x ∉ l.take i := fun hm => by
  obtain ⟨j, hj⟩ := List.getElem?_of_mem hm
  rw [List.getElem?_take] at hj
  split at hj
  · rename_i hji
    obtain ⟨h1, e1⟩ := List.getElem?_eq_some_iff.mp hj
    obtain ⟨h2, e2⟩ := List.getElem?_eq_some_iff.mp e
    exact List.pairwise_iff_getElem.mp h j i h1 h2 hji (e1.trans e2.symm)
  · cases hj
/-- a loop over a dict's keys that changes other things -/
theorem forDm {o : Obj} {a : Addr} {kvs : List (Key × V)} {H1 H2 : Hp} {g : TG} {tb : TS} {D : Ends} {σ : St} (hr : H1 a = some (.dK kvs)) (fz : Fzn a o kvs H1 H2) (Pv : Nat → St → Hp → Prop) (h0 : H2 = upd H1 a (.frz o (.dK kvs)) → Pv 0 σ H2)
    (hh : ∀ i σ H, Pv i σ H → H a = some (.frz o (.dK kvs)))
    (hs : ∀ i k v σ H, kvs[i]? = some (k, v) → Pv i σ H → g (kV k) σ H fun σ2 H2 => tb { nx := Pv (i + 1), ct := Pv (i + 1), bk := (thawE a o kvs H1 D).nx, rt := (thawE a o kvs H1 D).rt } σ2 H2)
    (hd : ∀ σ H, Pv kvs.length σ H → D.nx σ (upd H a (.dK kvs))) : LoopVC (Itd a o kvs) g tb (thawE a o kvs H1 D) σ H2 := by
  have e2 : H2 = upd H1 a (.frz o (.dK kvs)) := by
    obtain ⟨h, e | ⟨_, e⟩⟩ := fz
    · rw [e, hr] at h; cases h
    · exact e
  refine ⟨fun i m σ H => m = kvs.length - i ∧ i ≤ kvs.length ∧ Pv i σ H, ⟨kvs.length, by simp, Nat.zero_le _, h0 e2⟩, ?_⟩
  rintro i m σ H ⟨rfl, hi, p⟩
  by_cases hlt : i < kvs.length
  · refine .inr ⟨⟨hh _ _ _ p, hlt⟩, Pv (i + 1), fun σ' H' q => ⟨kvs.length - (i + 1), by omega, rfl, hlt, q⟩, ?_⟩
    rintro x H' ⟨rfl, k, v, hx, rfl⟩
    exact hs i k v σ H' hx p
  · have e : i = kvs.length := by omega
    subst e
    refine .inl ⟨⟨hh _ _ _ p, Nat.le_refl _⟩, hh _ _ _ p, fun H3 t => ?_⟩
    rcases t with ⟨_, rfl⟩ | ⟨c, _⟩
    · exact hd σ H p
    · exact absurd hr c
theorem cst_mk {K : PySem.W.Frag} {ns : Addr} {n : Str} {v : Value} {P : Value → Prop} (e : PySem.W.nsIn K ns n = some (some v)) (h : P v) : ∃ v : Value, PySem.W.nsIn K ns n = some (some v) ∧ P v := ⟨v, e, h⟩
def strengthD : D → Bool | .int i => decide (1 ≤ i) && decide (i ≤ 1000000000) | _ => false
theorem encO_get {bs : Outer} {i : Nat} {k : Key} {v : V} (h : (encO bs)[i]? = some (k, v)) : ∃ p, p ∈ bs ∧ k = Sum.inr p.1 ∧ v = .ref p.2 := by
  unfold encO at h
  rw [List.getElem?_map] at h
  cases e : bs[i]? with
  | none => rw [e] at h; cases h
  | some p => rw [e] at h; cases h; exact ⟨p, List.mem_of_getElem? e, rfl, rfl⟩
theorem encI_get {l : L2.Row} {i : Nat} {k : Key} {v : V} (h : (encI l)[i]? = some (k, v)) : ∃ p, p ∈ l ∧ k = Sum.inr p.1 ∧ v = .int p.2 := by
  unfold encI at h
  rw [List.getElem?_map] at h
  cases e : l[i]? with
  | none => rw [e] at h; cases h
  | some p => rw [e] at h; cases h; exact ⟨p, List.mem_of_getElem? e, rfl, rfl⟩
def NS0 (H : Hp) (p : Addr) (ks : List Str) (g : Str → L2.Row) (H2 : Hp) : Prop := ∃ bs, Same H H2 ∧ NetAt H2 p bs g ∧ bs.map (·.1) = ks ∧ New H p bs
end L2

set_option Elab.async false
set_option linter.all false
set_option maxRecDepth 100000
/-! more of TEXTS: split, partition, f-strings, int(text); try; reversed (own work) -/
namespace L2
open PySem PySem.Spec PyProof.Rows
section
variable {X : Cx}
/-- int(text) -/
theorem call_int_str : CallR X (.type "int") (fun xs H Q => ∃ x n, xs = [.str x] ∧ PySem.intText? x = some n ∧ x.length ≤ 640 ∧ Q (.int n) H) := by
  rintro pins s σ H xs us Q I r ⟨x, n, rfl, hn, hl, q⟩
  obtain ⟨u, rfl, t, rfl⟩ := vals1 r
  exact PySem.W.KIN.call_text hn hl ⟨.int n, H, I.tok _, ⟨_, rfl⟩, q⟩
theorem strValues_vals : ∀ l : List (Str × Tok), Vals ((l.map (·.1)).map V.str) (strValues l)
  | [] => .nil
  | p :: r => .cons ⟨p.2, rfl⟩ (strValues_vals r)
/-- x.split(y) -/
theorem mt_split : MtR X "str.split" (fun x xs H Q => ∃ z y : Str, x = .str z ∧ xs = [.str y] ∧ (y.length == 0) = false ∧ z.length + 2 ≤ sizeLine ∧ ∀ p, H p = none → Q (.ref p) (upd H p (.lst ((Txt.split z y).map V.str)))) := by
  rintro pins s σ H x xs v us Q I rx rv ⟨z, y, rfl, rfl, hy, hz, q⟩
  obtain ⟨t, rfl⟩ := rx
  obtain ⟨u, rfl, t', rfl⟩ := vals1 rv
  have hn : (Builtin.Str.partsBetween z (Builtin.Str.occurrences z y 0 z.length (z.length + 1)) y.length).length ≤ sizeLine := by
    have e1 := StrLaws.occ_length_le z y 0 z.length (z.length + 1)
    rw [length_partsBetween]; omega
  have hw := split_weight z y (by have : ¬ y.length = 0 := by simpa using hy
                                  omega)
  have fin : ∀ (l : List (Str × Tok)) (k : Nat), l.map (·.1) = Txt.split z y → EP X pins σ Q (.ref s.heap.objs.size) { s with heap := s.heap.push { cls := .type "list", data := .seq (strValues l).toArray }, toks := k } := fun l k e => by
    have hv := strValues_vals l
    rw [e] at hv
    exact ⟨.ref s.heap.objs.size, _, I.lnew (t' := k) hv (by rw [List.length_map]; omega), rfl, q _ I.fresh⟩
  cases h1 : (decide (z.length < y.length) || decide (Builtin.Str.strKind z < Builtin.Str.strKind y))
  · cases hf : (Builtin.Str.occurrences z y 0 z.length (z.length + 1)).isEmpty
    · refine call_meets F.slot_str_split (typeIs_str _ _ _) F.entry_str_split (F.args_str_split_2 _ _) (meets_str_split_sep z y t t' h1 hy hf (by omega) hn) ?_
      show EP X pins σ Q _ { s with toks := _, heap := s.heap.push { cls := .type "list", data := .seq (strsFrom s.toks (Builtin.Str.partsBetween z (Builtin.Str.occurrences z y 0 z.length (z.length + 1)) y.length)).toArray } }
      rw [strsFrom_eq]
      exact fin (numbered s.toks _) _ ((numbered_texts _ _).trans (by unfold Txt.split; rw [if_neg (by rw [h1]; decide), if_neg (by rw [hf]; decide)]))
    · exact call_meets F.slot_str_split (typeIs_str _ _ _) F.entry_str_split (F.args_str_split_2 _ _) (meets_str_split_not_found z y t t' h1 hy hf) (fin [(z, t)] s.toks (by unfold Txt.split; rw [if_neg (by rw [h1]; decide), if_pos hf]; rfl))
  · exact call_meets F.slot_str_split (typeIs_str _ _ _) F.entry_str_split (F.args_str_split_2 _ _) (meets_str_split_cannot_occur z y t t' h1) (fin [(z, t)] s.toks (by unfold Txt.split; rw [if_pos h1]; rfl))
/-- x.partition(y) -/
theorem mt_partition : MtR X "str.partition" (fun x xs H Q => ∃ z y : Str, x = .str z ∧ xs = [.str y] ∧ (y.length == 0) = false ∧ z.length ≤ sizeLine ∧ ∀ p, H p = none → Q (.ref p) (upd H p (.tup [.str (Txt.partition z y).1, .str (Txt.partition z y).2.1, .str (Txt.partition z y).2.2]))) := by
  rintro pins s σ H x xs v us Q I rx rv ⟨z, y, rfl, rfl, hy, hz, q⟩
  obtain ⟨t, rfl⟩ := rx
  obtain ⟨u, rfl, t', rfl⟩ := vals1 rv
  have fin : ∀ (ta tb tc k : Nat), EP X pins σ Q (.ref s.heap.objs.size) { s with heap := s.heap.push { cls := .type "tuple", data := .seq [Value.str (Txt.partition z y).1 ta, .str (Txt.partition z y).2.1 tb, .str (Txt.partition z y).2.2 tc].toArray }, toks := k } := fun ta tb tc k => by
    refine ⟨.ref s.heap.objs.size, _, I.laid (o := .tup [.str (Txt.partition z y).1, .str (Txt.partition z y).2.1, .str (Txt.partition z y).2.2]) (t' := k) (fun _ _ q => Heap.get?_push_of_some _ q) (Nat.le_refl _) ⟨by show 3 ≤ sizeLine; decide, [Value.str (Txt.partition z y).1 ta, .str (Txt.partition z y).2.1 tb, .str (Txt.partition z y).2.2 tc], .cons ⟨_, rfl⟩ (.cons ⟨_, rfl⟩ (.cons ⟨_, rfl⟩ .nil)), ?_⟩, rfl, q _ I.fresh⟩
    exact IsTup.new s.heap _
  refine call_meets F.slot_str_partition (typeIs_str _ _ _) F.entry_str_partition (F.args_str_partition_2 _ _) (meets_str_partition z y t t' hy hz) ?_
  have fin' := fin
  unfold Txt.partition at fin'
  revert fin'
  cases Builtin.Str.occurrences z y 0 z.length 1 with
  | nil => intro fin'; exact fin' _ _ _ _
  | cons i r => intro fin'; exact fin' _ _ _ _
/-- f-strings -/
abbrev TF := St → Hp → Str → VK → Prop
def PF (X : Cx) (es : List Expr) (t : TF) : Prop :=
  ∀ (pins : List (Addr × Obj)) (s : Shared) (σ : St) (H : Hp) (out : Str) (Q : VK), Inv X pins σ H s → t σ H out Q → wpAny (model X.prog X.w) X.A (joinParts out (evalEach es X.env)) (EP X pins σ Q) X.xe s
def fNil : TF := fun _ H out Q => out.length ≤ sizeLine ∧ Q (.str out) H
def fTxt (x : Str) (r : TF) : TF := fun σ H out Q => (out ++ x).length ≤ sizeLine ∧ r σ H (out ++ x) Q
def fmtV (v : V) (z : Str) : Prop := (∃ y, v = .str y ∧ z = y ∧ y.length ≤ sizeLine) ∨ ∃ i : Int, v = .int i ∧ z = toString i ∧ i.natAbs.log2 < 1920
def fVal (te : TE) (r : TF) : TF := fun σ H out Q => te σ H fun v H1 => ∃ z, fmtV v z ∧ (out ++ z).length ≤ sizeLine ∧ r σ H1 (out ++ z) Q
theorem pf_nil : PF X [] fNil := fun pins s σ H out Q I h => joinParts_nil ⟨.str out, H, I.tok _, ⟨_, rfl⟩, h.2⟩ h.1
theorem pf_txt {x : Str} {j pos} {es : List Expr} {r : TF} (h : PF X es r) (he : evalEach (.Constant (.str x) j pos :: es) X.env = eval (.Constant (.str x) j pos) X.env :: evalEach es X.env := by rfl) : PF X (.Constant (.str x) j pos :: es) (fTxt x r) := by
  intro pins s σ H out Q I hw
  rw [he]
  refine joinParts_cons (Calls.Constant_str ?_)
  exact ⟨hw.1, h pins _ σ H _ Q (I.tok _) hw.2⟩
theorem pf_val {e : Expr} {pos} {es : List Expr} {te : TE} {r : TF} (hv : PE X e te) (h : PF X es r) (he : evalEach (.FormattedValue e (-1) none pos :: es) X.env = eval (.FormattedValue e (-1) none pos) X.env :: evalEach es X.env := by rfl) : PF X (.FormattedValue e (-1) none pos :: es) (fVal te r) := by
  intro pins s σ H out Q I hw
  rw [he]
  refine joinParts_cons (FormattedValue_plain (thn (hv pins s σ H _ I hw) fun v s1 ⟨x, H1, I1, r1, z, hf, hl, q⟩ => ?_))
  rcases hf with ⟨y, rfl, rfl, hz⟩ | ⟨i, rfl, rfl, hz⟩
  · obtain ⟨t, rfl⟩ := r1
    exact formatField_str (fun t' tk => ⟨hl, h pins _ σ H1 _ Q (I1.tok _) q⟩) hz
  · obtain ⟨t, rfl⟩ := r1
    exact formatField_int_small hz ⟨hl, h pins _ σ H1 _ Q (I1.tok _) q⟩
theorem pe_fstr {v1 v2 : Expr} {es : List Expr} {pos} {t : TF} (h : PF X (v1 :: v2 :: es) t) (he : evalEach (v1 :: v2 :: es) X.env = eval v1 X.env :: eval v2 X.env :: evalEach es X.env := by rfl) : PE X (.JoinedStr (v1 :: v2 :: es) pos) (fun σ H Q => t σ H Str.empty Q) := by
  intro pins s σ H Q I hw
  refine JoinedStr_many ?_
  have := h pins s σ H Str.empty Q I hw
  rw [he] at this
  exact this
/-- try, where nothing is raised -/
theorem ps_tryN {body : List Stmt} {h0 : ExceptHandler} {hs : List ExceptHandler} {pos : Pos} {tb : TS} (hx : ∀ e s, ¬ X.xe e s) (hb : PSs X body tb) : PS X (.Try body (h0 :: hs) [] [] pos) tb := by
  intro pins s σ H D I h
  rw [arm_exec_Try]
  refine wpAny_bind (wpAny_standAt (wpAny_tryStmt_except (wpAny_mono (hb pins s σ H D I h) (fun f s1 q => ?_) fun e s1 q => absurd q (hx e s1))))
  cases f with
  | next => exact wpAny_execs_nil q
  | ret v => exact q
  | brk => exact q
  | cont => exact q
end
/-- a list, from its end -/
def Itrv (K : PySem.W.Frag) (a : Addr) (xs : List V) : It :=
  ⟨fun i H => SqL K H a xs ∧ i < xs.length, fun i H x H' => H' = H ∧ xs[xs.length - 1 - i]? = some x, fun i H => SqL K H a xs ∧ i = xs.length⟩
theorem turn_rev {P : Program} {w : World} {K : PySem.W.Frag} {tg : Expr} (a it : Addr) (xs : List V) : Turn P w K tg (Itrv K a xs) [it] it (fun i h => h.IsRevIter it a ((xs.length : Int) - 1 - i)) where
  mem := by simp
  obj := fun i h st b hb => by
    have e : b = it := by simpa using hb
    subst e
    obtain ⟨o, e, c, d⟩ := st
    exact ⟨o, e, fun v z => by rw [d] at z; cases z⟩
  keep := fun i h h' st k => st.at fun o e => k it (by simp) o e
  item := by
    intro X hP hw hK hc i pins s σ H E I hf st hg
    subst hP hw hK
    obtain ⟨hq, hi⟩ := hg
    obtain ⟨its, rv, p, hz⟩ := I.list hq
    obtain ⟨x, hx⟩ : ∃ x, xs[xs.length - 1 - i]? = some x := ⟨_, List.getElem?_eq_getElem (by omega)⟩
    obtain ⟨u, hu, ru⟩ := rv.get hx
    obtain ⟨f0, f1, f2, f3, f4, f5⟩ := hf it (by simp)
    have e : (xs.length : Int) - 1 - (i : Int) = ((xs.length - 1 - i : Nat) : Int) := by omega
    rw [e] at st
    refine wpAny_pyNext_rev_item st p.isList (x := u) (by simpa using hu) fun h' st' sb => ?_
    have I1 : Inv X pins σ H { s with heap := h' } := I.turned (t' := s.toks) (fun b o hb e => (sb.2 b hb).trans e) f0 f1 f3 f4 f5
    obtain ⟨o, e', c, d⟩ := id st'
    refine ⟨u, rfl, go_of (s := { s with heap := h' }) e' c d (by decide) ⟨x, H, I1, ru, ⟨rfl, hx⟩, ?_, fun b hb => (hf b hb).1⟩⟩
    have e2 : ((xs.length - 1 - i : Nat) : Int) - 1 = (xs.length : Int) - 1 - ((i + 1 : Nat) : Int) := by omega
    rw [e2] at st'
    exact st'
  done := by
    intro X hP hw hK hc i pins s σ H E I hf st hg
    subst hP hw hK
    obtain ⟨hq, hi⟩ := hg
    obtain ⟨f0, f1, f2, f3, f4, f5⟩ := hf it (by simp)
    have e : (xs.length : Int) - 1 - (i : Int) = -1 := by omega
    rw [e] at st
    exact wpAny_pyNext_rev_end (I.ok.hd hc) st fun h' eb => ⟨rfl, I.turned (t' := s.toks) (fun b o hb e => eb b o hb e) f0 f1 f3 f4 f5⟩
  self := fun _ _ _ _ _ st h => wpAny_pyIter_revIter st h
theorem boot_ty_reversed : bootBuiltins "reversed" = some (.type "reversed") := by decide +kernel
def iRev (K : PySem.W.Frag) (ta : TA) : TI := fun σ H R => ta σ H fun vs H1 => ∃ a xs, vs = [.ref a] ∧ SqL K H1 a xs ∧ R (Itrv K a xs) H1
section
variable {X : Cx} {tg : Expr}
theorem pi_revL {a : Expr} {ta : TA} {p pos : Pos} (hg : Gl X "reversed") (hm : X.mg "reversed" = none) (ha : PA X [a] ta) (hs : starEach [a] X.env = [(false, eval a X.env)] := by rfl) : PI X tg (.Call (.Name "reversed" p) [a] [] pos) (iRev X.K ta) := by
  intro pins s σ H R I h
  refine Call_ (ld_blt I hg hm boot_ty_reversed (PyProof.Rows.callWith_type1 (thn (ha pos pins s σ H _ I h) fun us s1 ⟨vs, H1, I1, r1, q1⟩ => ?_) hs rfl))
  obtain ⟨l, xs, e, hq, q⟩ := q1
  subst e
  obtain ⟨u, rfl, ru⟩ := vals1 r1
  cases ru
  obtain ⟨its, rv, pl, hz⟩ := I1.list hq
  have hl := rv.length
  refine call_reversed_list pl.isList ?_
  have st : (s1.heap.push (revObj l ((its.toArray.size : Int) - 1))).IsRevIter s1.heap.objs.size l ((its.toArray.size : Int) - 1) := ⟨_, Heap.get?_push_size _ rfl, rfl, rfl⟩
  refine wpAny_pyIter_revIter (s := { s1 with heap := s1.heap.push (revObj l ((its.toArray.size : Int) - 1)) }) st ?_
  refine ⟨s1.heap.objs.size, [s1.heap.objs.size], _, _, H1, rfl, I1.kept (t' := s1.toks) fun b o e => Heap.get?_push_of_some _ e, turn_rev l _ xs, ?_, fun b hb => ?_, q⟩
  · have e : (its.toArray.size : Int) - 1 = (xs.length : Int) - 1 - ((0 : Nat) : Int) := by rw [List.size_toArray, ← hl]; omega
    rw [e] at st ⊢
    exact st
  · have e : b = s1.heap.objs.size := by simpa using hb
    subst e
    exact I1.fpOk (Nat.le_refl _) (I1.hok.fresh (Nat.le_refl _))
end
/-- over a list from its end, which the body leaves as it is -/
theorem for_rev {K : PySem.W.Frag} {a : Addr} {xs : List V} {g : TG} {tb : TS} {D : Ends} {σ : St} {H : Hp} (Pv : Nat → St → Hp → Prop) (h0 : Pv 0 σ H) (hl : ∀ i σ H, i ≤ xs.length → Pv i σ H → SqL K H a xs)
    (hs : ∀ i x σ H, xs.reverse[i]? = some x → Pv i σ H → g x σ H fun σ2 H2 => tb { D with nx := Pv (i + 1), ct := Pv (i + 1), bk := D.nx } σ2 H2) (hd : ∀ σ H, Pv xs.length σ H → D.nx σ H) :
    ∃ W : Nat → Nat → St → Hp → Prop, (∃ m, W 0 m σ H) ∧ ∀ i m σ H, W i m σ H →
      ((Itrv K a xs).stop i H ∧ D.nx σ H) ∨ ((Itrv K a xs).go i H ∧ ∃ N : St → Hp → Prop, (∀ σ' H', N σ' H' → ∃ m', m' < m ∧ W (i + 1) m' σ' H') ∧ ∀ x H', (Itrv K a xs).yld i H x H' → g x σ H' fun σ2 H2 => tb { D with nx := N, ct := N, bk := D.nx } σ2 H2) := by
  refine ⟨fun i m σ H => m = xs.length - i ∧ i ≤ xs.length ∧ Pv i σ H, ⟨xs.length, by simp, Nat.zero_le _, h0⟩, ?_⟩
  rintro i m σ H ⟨rfl, hi, p⟩
  have q := hl i σ H hi p
  by_cases hlt : i < xs.length
  · refine .inr ⟨⟨q, hlt⟩, Pv (i + 1), fun σ' H' p' => ⟨xs.length - (i + 1), by omega, rfl, hlt, p'⟩, fun x H' y => ?_⟩
    obtain ⟨rfl, y⟩ := y
    exact hs i x σ _ (by rw [List.getElem?_reverse hlt]; exact y) p
  · have e : i = xs.length := by omega
    subst e
    exact .inl ⟨⟨q, rfl⟩, hd σ H p⟩
end L2

set_option Elab.async false
set_option linter.all false
set_option maxRecDepth 100000
set_option maxHeartbeats 4000000
/-! nets as texts: shown and read (own work) -/
namespace L2
open PySem PySem.Spec PyProof.Rows
/-! ### split is undone join -/
def splitL (c : Nat) : List Nat → List (List Nat)
  | [] => [[]]
  | d :: r => if d = c then [] :: splitL c r else match splitL c r with | [] => [[d]] | p :: ps => (d :: p) :: ps
def joinL (c : Nat) : List (List Nat) → List Nat
  | [] => []
  | [p] => p
  | p :: q :: r => p ++ c :: joinL c (q :: r)
theorem splitL_free {c : Nat} : ∀ {p : List Nat}, c ∉ p → splitL c p = [p]
  | [], _ => rfl
  | d :: r, h => by
    have h1 : ¬ d = c := fun e => h (by rw [e]; exact List.mem_cons_self)
    rw [splitL, if_neg h1, splitL_free fun m => h (List.mem_cons_of_mem _ m)]
theorem splitL_app {c : Nat} : ∀ {p : List Nat} (l : List Nat), c ∉ p → splitL c (p ++ c :: l) = p :: splitL c l
  | [], l, _ => by rw [List.nil_append, splitL, if_pos rfl]
  | d :: r, l, h => by
    have h1 : ¬ d = c := fun e => h (by rw [e]; exact List.mem_cons_self)
    rw [List.cons_append, splitL, if_neg h1, splitL_app l fun m => h (List.mem_cons_of_mem _ m)]
theorem splitL_join {c : Nat} : ∀ {ps : List (List Nat)}, ps ≠ [] → (∀ p ∈ ps, c ∉ p) → splitL c (joinL c ps) = ps
  | [], h, _ => absurd rfl h
  | [p], _, h => splitL_free (h p List.mem_cons_self)
  | p :: q :: r, _, h => by
    rw [joinL, splitL_app _ (h p List.mem_cons_self), splitL_join (by simp) fun x hx => h x (List.mem_cons_of_mem _ hx)]
theorem join_L (c : Nat) : ∀ ps : List Str, cs (joinS ⟨#[c]⟩ ps) = joinL c (ps.map cs)
  | [] => rfl
  | [p] => by
    show Array.toList (List.foldl (fun acc (p : Str) => acc ++ (⟨#[c]⟩ : Str).cps ++ p.cps) p.cps []) = _
    rfl
  | p :: q :: r => by
    have ih := join_L c (q :: r)
    have key : ∀ (ps : List Str) (a : Array Nat), (ps.foldl (fun acc p => acc ++ (⟨#[c]⟩ : Str).cps ++ p.cps) a).toList = a.toList ++ (ps.map fun y => c :: cs y).flatten := fun ps => by
      induction ps with
      | nil => intro a; simp
      | cons x xs ih => intro a; rw [List.foldl_cons, ih, List.map_cons, List.flatten_cons]; simp [cs]
    have e1 : cs (joinS ⟨#[c]⟩ (p :: q :: r)) = cs p ++ ((q :: r).map fun y => c :: cs y).flatten := key (q :: r) p.cps
    have e2 : cs (joinS ⟨#[c]⟩ (q :: r)) = cs q ++ (r.map fun y => c :: cs y).flatten := key r q.cps
    rw [e2] at ih
    rw [e1, List.map_cons, List.map_cons, List.map_cons, joinL, List.flatten_cons, ← List.map_cons, ← ih]
    simp
theorem cs_inj {x y : Str} (h : cs x = cs y) : x = y := Str.ext' h
theorem map_cs_inj : ∀ {a b : List Str}, a.map cs = b.map cs → a = b
  | [], [], _ => rfl
  | [], _ :: _, h => by simp at h
  | _ :: _, [], h => by simp at h
  | x :: a, y :: b, h => by
    rw [List.map_cons, List.map_cons] at h
    injection h with h1 h2
    rw [cs_inj h1, map_cs_inj h2]
theorem split_ne (x y : Str) : Txt.split x y ≠ [] := by
  unfold Txt.split
  split
  · simp
  · split
    · simp
    · rw [StrLaws.partsBetween_eq]
      obtain ⟨p, r, e⟩ := StrLaws.partsFrom_ne x y.length 0 (Builtin.Str.occurrences x y 0 x.length (x.length + 1))
      rw [e]; simp
theorem split_join {c : Nat} {ps : List Str} (h : ps ≠ []) (hf : ∀ p ∈ ps, c ∉ cs p) : Txt.split (joinS ⟨#[c]⟩ ps) ⟨#[c]⟩ = ps := by
  have e := StrLaws.join_split (joinS ⟨#[c]⟩ ps) ⟨#[c]⟩
  have e' : joinS ⟨#[c]⟩ (Txt.split (joinS ⟨#[c]⟩ ps) ⟨#[c]⟩) = joinS ⟨#[c]⟩ ps := by
    show Txt.join _ _ = _
    unfold Txt.join
    rw [StrLaws.glued_eq_join]; exact e
  have fr := StrLaws.split_free (joinS ⟨#[c]⟩ ps) c
  have ne := split_ne (joinS ⟨#[c]⟩ ps) ⟨#[c]⟩
  generalize Txt.split (joinS ⟨#[c]⟩ ps) ⟨#[c]⟩ = qs at e' fr ne
  have e2 := congrArg cs e'
  rw [join_L, join_L] at e2
  have a1 := splitL_join (c := c) (ps := qs.map cs) (by simpa using ne) (fun p hp => by obtain ⟨z, hz, rfl⟩ := List.mem_map.mp hp; exact fr z hz)
  have a2 := splitL_join (c := c) (ps := ps.map cs) (by simpa using h) (fun p hp => by obtain ⟨z, hz, rfl⟩ := List.mem_map.mp hp; exact hf z hz)
  rw [e2, a2] at a1
  exact (map_cs_inj a1).symm
theorem drop_first {c : Nat} : ∀ {p : List Nat} (r : List Nat), c ∉ p → (p ++ c :: r).dropWhile (· != c) = c :: r
  | [], r, _ => by simp
  | d :: q, r, h => by
    have h1 : (d != c) = true := by simpa using fun (e : d = c) => h (by rw [e]; exact List.mem_cons_self)
    rw [List.cons_append, List.dropWhile_cons, if_pos h1]
    exact drop_first r fun m => h (List.mem_cons_of_mem _ m)
theorem part_at {c : Nat} {x p r : Str} (hx : cs x = cs p ++ c :: cs r) (hp : c ∉ cs p) : Txt.partition x ⟨#[c]⟩ = (p, ⟨#[c]⟩, r) := by
  have hne : (Builtin.Str.occurrences x ⟨#[c]⟩ 0 x.length 1).isEmpty = false := by
    have := StrLaws.found_one x c
    rw [decide_eq_true (by show c ∈ cs x; rw [hx]; simp)] at this
    simpa using this
  have h1 := from_first_some (x := x) (y := ⟨#[c]⟩) (z := ⟨#[c]⟩) (c := c) rfl rfl hne
  have h2 := StrLaws.partition_sum x ⟨#[c]⟩
  have h3 : (Txt.partition x ⟨#[c]⟩).2.1 = ⟨#[c]⟩ := by
    unfold Txt.partition
    cases e : Builtin.Str.occurrences x ⟨#[c]⟩ 0 x.length 1 with
    | nil => rw [e] at hne; cases hne
    | cons i l => rfl
  have h1' : (⟨#[c]⟩ : Str) ++ (Txt.partition x ⟨#[c]⟩).2.2 = ⟨(x.cps.toList.dropWhile (· != c)).toArray⟩ := by simpa using h1
  have h4 := congrArg cs h1'
  rw [cs_append] at h4
  have h5 : cs (⟨(x.cps.toList.dropWhile (· != c)).toArray⟩ : Str) = c :: cs r := by
    show (cs x).dropWhile (· != c) = _
    rw [hx, drop_first _ hp]
  rw [h5] at h4
  have h6 : cs (Txt.partition x ⟨#[c]⟩).2.2 = cs r := by
    have : c :: cs (Txt.partition x ⟨#[c]⟩).2.2 = c :: cs r := h4
    injection this
  have e3 := cs_inj h6
  have h7 := congrArg cs h2
  rw [cs_append, cs_append, h3, e3, hx] at h7
  have h8 : cs (Txt.partition x ⟨#[c]⟩).1 ++ (c :: cs r) = cs p ++ (c :: cs r) := by rw [← h7]; simp [cs]
  have e1 := cs_inj (List.append_cancel_right h8)
  rw [← e1, ← e3]
  exact Prod.ext rfl (Prod.ext h3 rfl)
/-! ### numbers -/
abbrev numS (v : Int) : Str := toString v
theorem num_cs (m : Nat) : cs (numS (m : Int)) = (Nat.toDigits 10 m).map Char.toNat := PySem.W.KIN.signs_num m
theorem num_digit {v : Int} (h0 : 0 ≤ v) : ∀ c ∈ cs (numS v), 48 ≤ c ∧ c ≤ 57 := by
  obtain ⟨m, rfl⟩ := Int.eq_ofNat_of_zero_le h0
  intro c hc
  rw [num_cs] at hc
  obtain ⟨ch, hch, e⟩ := List.mem_map.mp hc
  have r := digit_range (Nat.isDigit_of_mem_toDigits (by decide) (by decide) hch)
  rw [← e]
  exact r
theorem num_len {v : Int} (h0 : 0 ≤ v) (h1 : v < 10 ^ 10) : (numS v).length ≤ 10 := PySem.W.KT.len_num h0 h1
theorem digits_head : ∀ m : Nat, 0 < m → ∃ c r, Nat.toDigits 10 m = c :: r ∧ c.toNat ≠ 48 := by
  intro m
  induction m using Nat.strongRecOn with
  | _ m ih =>
    intro hm
    by_cases h : m < 10
    · rw [Nat.toDigits_of_lt_base h]
      refine ⟨_, [], rfl, ?_⟩
      have : ∀ d : Nat, d < 10 → 0 < d → (Nat.digitChar d).toNat ≠ 48 := by decide
      exact this m h hm
    · have hm' : m % 10 < 10 := Nat.mod_lt m (by decide)
      have t : Nat.toDigits 10 (m / 10) ++ Nat.toDigits 10 (m % 10) = Nat.toDigits 10 (10 * (m / 10) + m % 10) := Nat.toDigits_append_toDigits (by decide) (by omega) hm'
      rw [Nat.div_add_mod] at t
      obtain ⟨c, r, e, n⟩ := ih (m / 10) (by omega) (by omega)
      rw [e] at t
      exact ⟨c, _, t.symm, n⟩
theorem num_head {v : Int} (h0 : 1 ≤ v) : ∃ c r, cs (numS v) = c :: r ∧ c ≠ 48 := by
  obtain ⟨m, rfl⟩ := Int.eq_ofNat_of_zero_le (show 0 ≤ v by omega)
  obtain ⟨c, r, e, n⟩ := digits_head m (by omega)
  rw [num_cs, e]
  exact ⟨_, _, rfl, n⟩
theorem num_log {v : Int} (h0 : 0 ≤ v) (h1 : v < 10 ^ 10) : v.natAbs.log2 < 1920 := by
  obtain ⟨m, rfl⟩ := Int.eq_ofNat_of_zero_le h0
  have hm : m < 2 ^ 64 := by
    have : (m : Int) < 10 ^ 10 := h1
    have : m < 10 ^ 10 := by exact_mod_cast this
    exact Nat.lt_trans this (by decide)
  show m.log2 < 1920
  rcases Nat.eq_zero_or_pos m with z | z
  · subst z; decide
  · have := (Nat.log2_lt (by omega)).mpr hm
    omega
/-! ### a net's text -/
abbrev c1 (c : Nat) : Str := ⟨#[c]⟩
theorem e32 : (" " : Str) = c1 32 := by decide +kernel
theorem e44 : ("," : Str) = c1 44 := by decide +kernel
theorem e58 : (":" : Str) = c1 58 := by decide +kernel
theorem e10 : ("\n" : Str) = c1 10 := by decide +kernel
def endS (f : Str → Row) (x y : Str) : Str := " " ++ y ++ " " ++ numS ((look (f x) y).getD 0)
def ysOf (f : Str → Row) (x : Str) : List Str := (sortS ((f x).map (·.1))).filter fun y => decide (sLt x y)
def tailS (f : Str → Row) (x : Str) : Str := joinS "," ((ysOf f x).map (endS f x))
def rowS (f : Str → Row) (x : Str) : Str := x ++ ":" ++ tailS f x
def netS (ks : List Str) (f : Str → Row) : Str := joinS "\n" ((sortS ks).map (rowS f))
section
variable {ks : List Str} {f : Str → Row} {B : Int}
theorem ysOf_mem {x y : Str} (h : y ∈ ysOf f x) : y ∈ (f x).map (·.1) ∧ sLt x y := by
  obtain ⟨a, b⟩ := List.mem_filter.mp h
  exact ⟨mem_sortS.mp a, of_decide_eq_true b⟩
theorem rowL_ys (x : Str) : rowL f x (sortS ((f x).map (·.1))) = (ysOf f x).map fun y => (x, y, (look (f x) y).getD 0) := rfl
theorem ysOf_len (x : Str) : (ysOf f x).length ≤ (f x).length := by
  unfold ysOf
  have := List.length_filter_le (fun y => decide (sLt x y)) (sortS ((f x).map (·.1)))
  rw [sortS_len, List.length_map] at this
  exact this
end
/-- what a place's text holds: letters -/
theorem nm_free {x : Str} (h : isNm x) {c : Nat} (hc : c < 97) : c ∉ cs x := fun m => by have := (h.2.2 c m).1; omega
theorem num_free {v : Int} (h : 0 ≤ v) {c : Nat} (hc : c < 48 ∨ 57 < c) : c ∉ cs (numS v) := fun m => by have := num_digit h c m; omega
theorem cs_c1 (c : Nat) : cs (c1 c) = [c] := rfl
theorem cs_end (f : Str → Row) (x y : Str) : cs (endS f x y) = 32 :: cs y ++ 32 :: cs (numS ((look (f x) y).getD 0)) := by
  unfold endS
  rw [e32, cs_append, cs_append, cs_append, cs_c1]; simp
theorem end_free {f : Str → Row} {x y : Str} (hy : isNm y) (hv : 0 ≤ (look (f x) y).getD 0) {c : Nat} (h : c < 97) (h1 : c < 48 ∨ 57 < c) (h2 : c ≠ 32) : c ∉ cs (endS f x y) := by
  rw [cs_end]
  intro m
  simp only [List.mem_append, List.mem_cons] at m
  rcases m with (m | m) | m | m
  · exact h2 m
  · exact nm_free hy h m
  · exact h2 m
  · exact num_free hv h1 m
theorem joinL_free {c d : Nat} (hcd : c ≠ d) : ∀ {ps : List (List Nat)}, (∀ p ∈ ps, c ∉ p) → c ∉ joinL d ps
  | [], _ => by simp [joinL]
  | [p], h => h p List.mem_cons_self
  | p :: q :: r, h => by
    rw [joinL]
    intro m
    rcases List.mem_append.mp m with m | m
    · exact h p List.mem_cons_self m
    · rcases List.mem_cons.mp m with e | m
      · exact hcd e
      · exact joinL_free hcd (fun x hx => h x (List.mem_cons_of_mem _ hx)) m
theorem end_split {f : Str → Row} {x y : Str} (hy : isNm y) (hv : 0 ≤ (look (f x) y).getD 0) : Txt.split (endS f x y) " " = [Str.empty, y, numS ((look (f x) y).getD 0)] := by
  have e : endS f x y = joinS (c1 32) [Str.empty, y, numS ((look (f x) y).getD 0)] := by
    refine cs_inj ?_
    rw [cs_end, join_L]
    show _ = cs Str.empty ++ 32 :: (cs y ++ 32 :: cs _)
    rfl
  rw [e, e32]
  refine split_join (by simp) fun p hp => ?_
  simp only [List.mem_cons, List.not_mem_nil, or_false] at hp
  rcases hp with rfl | rfl | rfl
  · show 32 ∉ ([] : List Nat); simp
  · exact nm_free hy (by decide)
  · exact num_free hv (by decide)
end L2

set_option Elab.async false
set_option linter.all false
set_option maxRecDepth 100000
set_option maxHeartbeats 4000000
namespace L2
open PySem PySem.Spec PyProof.Rows
def figS : Str := "0123456789"
theorem fig_cs : cs figS = (List.range 10).map (48 + ·) := by decide +kernel
theorem fig_mem {c : Nat} : c ∈ cs figS ↔ 48 ≤ c ∧ c ≤ 57 := by
  rw [fig_cs, List.mem_map]
  constructor
  · rintro ⟨k, hk, rfl⟩
    have := List.mem_range.mp hk
    omega
  · intro h
    exact ⟨c - 48, List.mem_range.mpr (by omega), by omega⟩
theorem e48 : ("0" : Str) = c1 48 := by decide +kernel
def wrD : D → Bool
  | .str x => decide (1 ≤ x.length) && decide (x.length ≤ 10) && ((cs x).all fun c => decide (c ∈ cs figS)) && (decide (x = "0") || !decide ((cs x).head? = some 48))
  | _ => false
theorem wr_num {v : Int} (h1 : 1 ≤ v) (h2 : v ≤ 1000000000) : wrD (.str (numS v)) = true := by
  have hl := num_len (v := v) (by omega) (by omega)
  obtain ⟨c, r, e, n⟩ := num_head h1
  have h0 : 1 ≤ (numS v).length := by rw [← cs_len, e]; simp
  simp only [wrD, Bool.and_eq_true, Bool.or_eq_true, decide_eq_true_eq, List.all_eq_true]
  refine ⟨⟨⟨h0, hl⟩, fun d hd => fig_mem.mpr (num_digit (by omega) d hd)⟩, .inr ?_⟩
  rw [e]
  simpa using n
/-- a net that can be shown and read -/
structure GT (ks : List Str) (f : Str → Row) : Prop where
  g : GNet ks f 1000000000
  nm : ∀ x ∈ ks, isNm x
  len : ks.length ≤ 12
  nd : ks.Nodup
section
variable {ks : List Str} {f : Str → Row}
theorem GT.end (h : GT ks f) {x y : Str} (hx : x ∈ ks) (hy : y ∈ (f x).map (·.1)) : y ∈ ks ∧ isNm y ∧ ∃ v, look (f x) y = some v ∧ (look (f x) y).getD 0 = v ∧ 1 ≤ v ∧ v ≤ 1000000000 := by
  obtain ⟨v, hv⟩ := look_some_iff.mpr hy
  obtain ⟨a, b, c⟩ := h.g.val x y v hx hv
  exact ⟨a, h.nm y a, v, hv, by rw [hv]; rfl, b, c⟩
theorem GT.row (h : GT ks f) {x : Str} (hx : x ∈ ks) : (f x).length ≤ 12 := by
  have : ((f x).map (·.1)).length ≤ ks.length := nd_len (h.g.nd x hx) fun y hy => (h.end hx hy).1
  rw [List.length_map] at this
  have := h.len
  omega
theorem GT.endlen (h : GT ks f) {x y : Str} (hx : x ∈ ks) (hy : y ∈ (f x).map (·.1)) : (endS f x y).length ≤ 20 := by
  obtain ⟨_, hn, v, _, hv, h1, h2⟩ := h.end hx hy
  unfold endS
  rw [hv, str_len, str_len, str_len]
  have := num_len (v := v) (by omega) (by omega)
  have := hn.2.1
  have e : (" " : Str).length = 1 := by decide +kernel
  omega
theorem joinL_len (c : Nat) : ∀ (ps : List (List Nat)) (m : Nat), (∀ p ∈ ps, p.length ≤ m) → (joinL c ps).length ≤ ps.length * (m + 1)
  | [], m, _ => by simp [joinL]
  | [p], m, h => by
    have := h p List.mem_cons_self
    simp only [joinL, List.length_cons, List.length_nil]; omega
  | p :: q :: r, m, h => by
    have h1 := h p List.mem_cons_self
    have h2 := joinL_len c (q :: r) m fun x hx => h x (List.mem_cons_of_mem _ hx)
    rw [joinL, List.length_append, List.length_cons, List.length_cons (a := p), Nat.succ_mul]
    omega
theorem join_len (c : Nat) {ps : List Str} {m : Nat} (h : ∀ p ∈ ps, p.length ≤ m) : (joinS (c1 c) ps).length ≤ ps.length * (m + 1) := by
  rw [← cs_len, join_L]
  have := joinL_len c (ps.map cs) m (fun p hp => by obtain ⟨z, hz, rfl⟩ := List.mem_map.mp hp; rw [cs_len]; exact h z hz)
  rw [List.length_map] at this
  exact this
theorem GT.taillen (h : GT ks f) {x : Str} (hx : x ∈ ks) : (tailS f x).length ≤ 252 := by
  unfold tailS
  rw [e44]
  have := join_len 44 (ps := (ysOf f x).map (endS f x)) (m := 20) (fun p hp => by obtain ⟨y, hy, rfl⟩ := List.mem_map.mp hp; exact h.endlen hx (ysOf_mem hy).1)
  rw [List.length_map] at this
  have h1 := ysOf_len (f := f) x
  have h2 := h.row hx
  have : (ysOf f x).length * (20 + 1) ≤ 12 * 21 := Nat.mul_le_mul_right _ (by omega)
  omega
theorem GT.rowlen (h : GT ks f) {x : Str} (hx : x ∈ ks) : (rowS f x).length ≤ 261 := by
  unfold rowS
  rw [str_len, str_len]
  have := h.taillen hx
  have := (h.nm x hx).2.1
  have e : (":" : Str).length = 1 := by decide +kernel
  omega
theorem GT.netlen (h : GT ks f) : (netS ks f).length ≤ 3144 := by
  unfold netS
  rw [e10]
  have := join_len 10 (ps := (sortS ks).map (rowS f)) (m := 261) (fun p hp => by obtain ⟨y, hy, rfl⟩ := List.mem_map.mp hp; exact h.rowlen (mem_sortS.mp hy))
  rw [List.length_map, sortS_len] at this
  have h2 := h.len
  have : ks.length * (261 + 1) ≤ 12 * 262 := Nat.mul_le_mul_right _ (by omega)
  omega
/-! ### read back -/
theorem GT.tailsplit (h : GT ks f) {x : Str} (hx : x ∈ ks) (hne : ysOf f x ≠ []) : Txt.split (tailS f x) "," = (ysOf f x).map (endS f x) := by
  unfold tailS
  rw [e44]
  refine split_join (by simpa using hne) fun p hp => ?_
  obtain ⟨y, hy, rfl⟩ := List.mem_map.mp hp
  obtain ⟨_, hn, v, _, hv, h1, _⟩ := h.end hx (ysOf_mem hy).1
  exact end_free hn (by omega) (by decide) (by decide) (by decide)
theorem tail_nil {x : Str} (h : ysOf f x = []) : tailS f x = "" := by
  unfold tailS
  rw [h]
  exact cs_inj (by rw [cs_empty]; rfl)
theorem tail_ne {x : Str} (h : ysOf f x ≠ []) : tailS f x ≠ "" := by
  intro e
  have := congrArg cs e
  unfold tailS at this
  rw [e44, join_L, cs_empty] at this
  cases q : ysOf f x with
  | nil => exact h q
  | cons y r =>
    rw [q] at this
    cases r with
    | nil => rw [List.map_cons, List.map_cons, List.map_nil, List.map_nil] at this; simp only [joinL] at this; rw [cs_end] at this; simp at this
    | cons z r => rw [List.map_cons, List.map_cons, List.map_cons, List.map_cons] at this; simp only [joinL] at this; rw [cs_end] at this; simp at this
theorem row_cs (x : Str) : cs (rowS f x) = cs x ++ 58 :: cs (tailS f x) := by
  unfold rowS
  rw [e58, cs_append, cs_append, cs_c1]; simp
theorem GT.rowpart (h : GT ks f) {x : Str} (hx : x ∈ ks) : Txt.partition (rowS f x) ":" = (x, (":" : Str), tailS f x) := by
  rw [e58]
  exact part_at (row_cs x) (nm_free (h.nm x hx) (by decide))
theorem GT.netsplit (h : GT ks f) (hne : ks ≠ []) : Txt.split (netS ks f) "\n" = (sortS ks).map (rowS f) := by
  unfold netS
  rw [e10]
  refine split_join (fun e => hne ?_) fun p hp => ?_
  · have := congrArg List.length e
    rw [List.length_map, sortS_len] at this
    exact List.eq_nil_of_length_eq_zero (by simpa using this)
  · obtain ⟨x, hx, rfl⟩ := List.mem_map.mp hp
    have hx' := mem_sortS.mp hx
    rw [row_cs]
    intro m
    rcases List.mem_append.mp m with m | m
    · exact nm_free (h.nm x hx') (by decide) m
    · rcases List.mem_cons.mp m with m | m
      · exact absurd m (by decide)
      · unfold tailS at m
        rw [e44, join_L] at m
        refine joinL_free (by decide) (fun q hq => ?_) m
        obtain ⟨z, hz, rfl⟩ := List.mem_map.mp hq
        obtain ⟨y, hy, rfl⟩ := List.mem_map.mp hz
        obtain ⟨_, hn, v, _, hv, h1, _⟩ := h.end hx' (ysOf_mem hy).1
        exact end_free hn (by omega) (by decide) (by decide) (by decide)
theorem net_nil (h : ks = []) : netS ks f = "" := by
  subst h
  have : sortS [] = [] := by simp [sortS]
  unfold netS
  rw [this]
  exact cs_inj (by rw [cs_empty]; rfl)
theorem net_ne (h : ks ≠ []) : netS ks f ≠ "" := by
  intro e
  have := congrArg cs e
  unfold netS at this
  rw [e10, join_L, cs_empty] at this
  cases q : sortS ks with
  | nil =>
    have := congrArg List.length q
    rw [sortS_len] at this
    exact h (List.eq_nil_of_length_eq_zero (by simpa using this))
  | cons y r =>
    rw [q] at this
    cases r with
    | nil => rw [List.map_cons, List.map_cons, List.map_nil, List.map_nil] at this; simp only [joinL] at this; rw [row_cs] at this; simp at this
    | cons z r => rw [List.map_cons, List.map_cons, List.map_cons, List.map_cons] at this; simp only [joinL] at this; rw [row_cs] at this; simp at this
end
/-- the text hangs on the lines alone -/
theorem netS_congr {ks ks' : List Str} {f g : Str → Row} (p : ks'.Perm ks) (n : ∀ x ∈ ks, ((f x).map (·.1)).Nodup) (n' : ∀ x ∈ ks, ((g x).map (·.1)).Nodup) (h : ∀ x ∈ ks, ∀ y, look (g x) y = look (f x) y) : netS ks' g = netS ks f := by
  unfold netS
  rw [sortS_congr p]
  congr 1
  refine List.map_congr_left fun x hx => ?_
  have hx := mem_sortS.mp hx
  have ey : ysOf g x = ysOf f x := by
    unfold ysOf
    rw [sortS_congr ((List.perm_ext_iff_of_nodup (n' x hx) (n x hx)).mpr fun y => by rw [← look_some_iff, ← look_some_iff, h x hx])]
  unfold rowS tailS
  rw [ey]
  congr 2
  refine List.map_congr_left fun y _ => ?_
  unfold endS
  rw [h x hx]
theorem linesF_jn {ks : List Str} {f : Str → Row} {B : Int} : LinesOf ks f B (linesF ks f) := by
  refine ⟨?_⟩
  have : (linesF ks f).map norm = linesF ks f := by
    refine (List.map_congr_left fun l hl => ?_).trans (List.map_id _)
    obtain ⟨a, b, c⟩ := l
    exact norm_lt (mem_linesF.mp hl).2.1
  rw [this]
end L2

set_option Elab.async false
set_option linter.all false
set_option maxRecDepth 100000
set_option maxHeartbeats 4000000
namespace L2
open PySem PySem.Spec PyProof.Rows
theorem GT.of_same {ks ss : List Str} {f g : Str → Row} (h : GT ks f) (p : ss.Perm ks) (n : ∀ x ∈ ss, ((g x).map (·.1)).Nodup) (e : ∀ x ∈ ss, ∀ y, look (g x) y = look (f x) y) : GT ss g := by
  have m : ∀ {x}, x ∈ ss → x ∈ ks := fun hx => p.mem_iff.mp hx
  refine ⟨⟨fun x y hx hy => ?_, fun x hx => ?_, fun x y v hx hv => ?_, n⟩, fun x hx => h.nm x (m hx), by rw [p.length_eq]; exact h.len, p.nodup_iff.mpr h.nd⟩
  · rw [e x hx, e y hy]; exact h.g.sym x y (m hx) (m hy)
  · rw [e x hx]; exact h.g.irr x (m hx)
  · rw [e x hx] at hv
    obtain ⟨a, b, c⟩ := h.g.val x y v (m hx) hv
    exact ⟨p.mem_iff.mpr a, b, c⟩
theorem look_perm {l l' : Row} (p : l.Perm l') (n : (l.map (·.1)).Nodup) (y : Str) : look l y = look l' y := by
  have n' : (l'.map (·.1)).Nodup := (p.map _).nodup_iff.mp n
  apply Option.ext
  intro v
  exact ⟨fun h => mem_look n' (p.mem_iff.mp (look_mem h)), fun h => mem_look n (p.mem_iff.mpr (look_mem h))⟩
theorem nd_rev {α : Type} {l : List α} (h : l.Nodup) : l.reverse.Nodup := (List.reverse_perm l).nodup_iff.mpr h
theorem put_new {l : Row} {k : Str} {v : Int} (h : look l k = none) : put l k v = l ++ [(k, v)] := by
  unfold put
  rw [any_look, h, if_neg (by simp)]
/-- two lists of lines, one behind the other -/
theorem LinesAt.cat {K : PySem.W.Frag} {H : Hp} {p : Addr} {xs zs : List V} {ls ms : List Ln} (h1 : H p = some (.lst xs)) (h2 : Reps K H xs (ls.map lineD)) (h3 : Reps K H zs (ms.map lineD)) : LinesAt K (upd H p (.lst (xs ++ zs))) p (ls ++ ms) := by
  have key : ∀ a ys, SqT K H a ys → SqT K (upd H p (.lst (xs ++ zs))) a ys := fun a ys q => by
    rcases q with q | q
    · have ap : a ≠ p := fun e => by
        subst e
        rcases q with q | ⟨o, q⟩ <;> rw [h1] at q <;> cases q
      rcases q with q | ⟨o, q⟩
      · exact .inl (.inl (by rw [upd_ne ap]; exact q))
      · exact .inl (.inr ⟨o, by rw [upd_ne ap]; exact q⟩)
    · exact .inr q
  refine ⟨_, upd_same, ?_⟩
  rw [List.map_append]
  exact Reps.append (Reps.tups key h2) (Reps.tups key h3)
theorem encO_keys (bs : Outer) : (encO bs).map (fun e => kV e.1) = (bs.map (·.1)).map V.str := by unfold encO; rw [List.map_map, List.map_map]; rfl
theorem encI_keys (l : Row) : (encI l).map (fun e => kV e.1) = (l.map (·.1)).map V.str := by unfold encI; rw [List.map_map, List.map_map]; rfl
end L2

set_option Elab.async false
set_option linter.all false
set_option maxRecDepth 100000
set_option maxHeartbeats 4000000
namespace K06
open PySem L2 PySem.Spec PyProof.Rows
def top (i : Nat) : Stmt := PySem.Challenge.pw_spareline_k06_nets_shown_and_read.main.body.getD i (.Pass ⟨0, 0, 0, 0⟩)
abbrev s_is_name : Stmt := top 15
abbrev s_is_strength : Stmt := top 16
abbrev s_number_of : Stmt := top 17
abbrev s_is_written_number : Stmt := top 18
abbrev s_is_made_of : Stmt := top 19
abbrev s_made_net : Stmt := top 22
abbrev s_net_of : Stmt := top 23
abbrev s_join_line : Stmt := top 24
abbrev s_check_places : Stmt := top 25
abbrev s_check_two : Stmt := top 26
abbrev s_check_line : Stmt := top 27
abbrev s_has_place : Stmt := top 28
abbrev s_show_net : Stmt := top 30
abbrev s_read_net : Stmt := top 31
abbrev s_shown_row : Stmt := top 32
abbrev s_told_net : Stmt := top 33
abbrev s_told_rows : Stmt := top 34
abbrev s_told_lines : Stmt := top 35
abbrev s_l_cell_at : Stmt := top 37
abbrev s_l_mix : Stmt := top 38
abbrev s_l_names : Stmt := top 39
abbrev s_l_net : Stmt := top 40
abbrev s_l_written : Stmt := top 41
abbrev s_l_turned : Stmt := top 42
abbrev s_l_numbers : Stmt := top 43
abbrev s_law : Stmt := top 44
structure Adr where
  is_name : Addr
  fd_is_name : FuncData
  is_strength : Addr
  fd_is_strength : FuncData
  number_of : Addr
  fd_number_of : FuncData
  is_written_number : Addr
  fd_is_written_number : FuncData
  is_made_of : Addr
  fd_is_made_of : FuncData
  made_net : Addr
  fd_made_net : FuncData
  net_of : Addr
  fd_net_of : FuncData
  join_line : Addr
  fd_join_line : FuncData
  check_places : Addr
  fd_check_places : FuncData
  check_two : Addr
  fd_check_two : FuncData
  check_line : Addr
  fd_check_line : FuncData
  has_place : Addr
  fd_has_place : FuncData
  show_net : Addr
  fd_show_net : FuncData
  read_net : Addr
  fd_read_net : FuncData
  shown_row : Addr
  fd_shown_row : FuncData
  told_net : Addr
  fd_told_net : FuncData
  told_rows : Addr
  fd_told_rows : FuncData
  told_lines : Addr
  fd_told_lines : FuncData
  l_cell_at : Addr
  fd_l_cell_at : FuncData
  l_mix : Addr
  fd_l_mix : FuncData
  l_names : Addr
  fd_l_names : FuncData
  l_net : Addr
  fd_l_net : FuncData
  l_written : Addr
  fd_l_written : FuncData
  l_turned : Addr
  fd_l_turned : FuncData
  l_numbers : Addr
  fd_l_numbers : FuncData
  law : Addr
  fd_law : FuncData
  tk_FIGURES : Tok
  tk_GREATEST_STRENGTH : Tok
  tk_LETTERS : Tok
  tk_LONGEST_NAME : Tok
  tk_LONGEST_NUMBER : Tok
  tk_MOST_PLACES : Tok
structure Txt (K : PySem.W.Frag) (mg : Str → Option Value) (t : Adr) : Prop where
  f_is_name : Top K mg "is_name" s_is_name ["thing"] t.is_name t.fd_is_name
  f_is_strength : Top K mg "is_strength" s_is_strength ["thing"] t.is_strength t.fd_is_strength
  f_number_of : Top K mg "number_of" s_number_of ["text"] t.number_of t.fd_number_of
  f_is_written_number : Top K mg "is_written_number" s_is_written_number ["thing"] t.is_written_number t.fd_is_written_number
  f_is_made_of : Top K mg "is_made_of" s_is_made_of ["text", "signs"] t.is_made_of t.fd_is_made_of
  f_made_net : Top K mg "made_net" s_made_net ["places", "lines"] t.made_net t.fd_made_net
  f_net_of : Top K mg "net_of" s_net_of ["places", "lines"] t.net_of t.fd_net_of
  f_join_line : Top K mg "join_line" s_join_line ["net", "one", "other", "many"] t.join_line t.fd_join_line
  f_check_places : Top K mg "check_places" s_check_places ["places"] t.check_places t.fd_check_places
  f_check_two : Top K mg "check_two" s_check_two ["net", "one", "other"] t.check_two t.fd_check_two
  f_check_line : Top K mg "check_line" s_check_line ["net", "one", "other", "strength"] t.check_line t.fd_check_line
  f_has_place : Top K mg "has_place" s_has_place ["net", "thing"] t.has_place t.fd_has_place
  f_show_net : Top K mg "show_net" s_show_net ["net"] t.show_net t.fd_show_net
  f_read_net : Top K mg "read_net" s_read_net ["text"] t.read_net t.fd_read_net
  f_shown_row : Top K mg "shown_row" s_shown_row ["net", "place"] t.shown_row t.fd_shown_row
  f_told_net : Top K mg "told_net" s_told_net ["text"] t.told_net t.fd_told_net
  f_told_rows : Top K mg "told_rows" s_told_rows ["text"] t.told_rows t.fd_told_rows
  f_told_lines : Top K mg "told_lines" s_told_lines ["place", "told"] t.told_lines t.fd_told_lines
  f_l_cell_at : Top K mg "_law_cell_at" s_l_cell_at ["_law_script", "_law_k"] t.l_cell_at t.fd_l_cell_at
  f_l_mix : Top K mg "_law_mix" s_l_mix ["_law_cell", "_law_k"] t.l_mix t.fd_l_mix
  f_l_names : Top K mg "_law_names" s_l_names ["_law_cell", "_law_many"] t.l_names t.fd_l_names
  f_l_net : Top K mg "_law_net" s_l_net ["_law_script", "_law_names_here", "_law_bound"] t.l_net t.fd_l_net
  f_l_written : Top K mg "_law_written" s_l_written ["_law_net_here"] t.l_written t.fd_l_written
  f_l_turned : Top K mg "_law_turned" s_l_turned ["_law_net_here"] t.l_turned t.fd_l_turned
  f_l_numbers : Top K mg "_law_numbers" s_l_numbers ["_law_net_here"] t.l_numbers t.fd_l_numbers
  f_law : Top K mg "law" s_law ["_law_script"] t.law t.fd_law
  b_all : mg "all" = none
  b_bool : mg "bool" = none
  b_int : mg "int" = none
  b_isinstance : mg "isinstance" = none
  b_len : mg "len" = none
  b_list : mg "list" = none
  b_max : mg "max" = none
  b_range : mg "range" = none
  b_reversed : mg "reversed" = none
  b_sorted : mg "sorted" = none
  b_str : mg "str" = none
  c_FIGURES : mg "FIGURES" = some (.str "0123456789" t.tk_FIGURES)
  c_GREATEST_STRENGTH : mg "GREATEST_STRENGTH" = some (.int 1000000000 t.tk_GREATEST_STRENGTH)
  c_LETTERS : mg "LETTERS" = some (.str "abcdefghijklmnopqrstuvwxyz" t.tk_LETTERS)
  c_LONGEST_NAME : mg "LONGEST_NAME" = some (.int 8 t.tk_LONGEST_NAME)
  c_LONGEST_NUMBER : mg "LONGEST_NUMBER" = some (.int 10 t.tk_LONGEST_NUMBER)
  c_MOST_PLACES : mg "MOST_PLACES" = some (.int 12 t.tk_MOST_PLACES)
theorem sc_is_name : FnScope ["thing"] ["thing"] (defScope s_is_name) := ⟨rfl, rfl, rfl, by decide +kernel, rfl, by decide +kernel, by decide +kernel⟩
theorem sc_is_strength : FnScope ["thing"] ["thing"] (defScope s_is_strength) := ⟨rfl, rfl, rfl, by decide +kernel, rfl, by decide +kernel, by decide +kernel⟩
theorem sc_number_of : FnScope ["text"] ["text"] (defScope s_number_of) := ⟨rfl, rfl, rfl, by decide +kernel, rfl, by decide +kernel, by decide +kernel⟩
theorem sc_is_written_number : FnScope ["thing"] ["thing"] (defScope s_is_written_number) := ⟨rfl, rfl, rfl, by decide +kernel, rfl, by decide +kernel, by decide +kernel⟩
theorem sc_is_made_of : FnScope ["text", "signs"] ["text", "signs"] (defScope s_is_made_of) := ⟨rfl, rfl, rfl, by decide +kernel, rfl, by decide +kernel, by decide +kernel⟩
theorem sc_made_net : FnScope ["places", "lines", "net", "one", "other", "strength"] ["places", "lines"] (defScope s_made_net) := ⟨rfl, rfl, rfl, by decide +kernel, rfl, by decide +kernel, by decide +kernel⟩
theorem sc_net_of : FnScope ["places", "lines", "net", "place", "one", "other", "many"] ["places", "lines"] (defScope s_net_of) := ⟨rfl, rfl, rfl, by decide +kernel, rfl, by decide +kernel, by decide +kernel⟩
theorem sc_join_line : FnScope ["net", "one", "other", "many", "strength"] ["net", "one", "other", "many"] (defScope s_join_line) := ⟨rfl, rfl, rfl, by decide +kernel, rfl, by decide +kernel, by decide +kernel⟩
theorem sc_check_places : FnScope ["places", "seen", "place"] ["places"] (defScope s_check_places) := ⟨rfl, rfl, rfl, by decide +kernel, rfl, by decide +kernel, by decide +kernel⟩
theorem sc_check_two : FnScope ["net", "one", "other", "place"] ["net", "one", "other"] (defScope s_check_two) := ⟨rfl, rfl, rfl, by decide +kernel, rfl, by decide +kernel, by decide +kernel⟩
theorem sc_check_line : FnScope ["net", "one", "other", "strength"] ["net", "one", "other", "strength"] (defScope s_check_line) := ⟨rfl, rfl, rfl, by decide +kernel, rfl, by decide +kernel, by decide +kernel⟩
theorem sc_has_place : FnScope ["net", "thing"] ["net", "thing"] (defScope s_has_place) := ⟨rfl, rfl, rfl, by decide +kernel, rfl, by decide +kernel, by decide +kernel⟩
theorem sc_show_net : FnScope ["net"] ["net"] (defScope s_show_net) := ⟨rfl, rfl, rfl, by decide +kernel, rfl, by decide +kernel, by decide +kernel⟩
theorem sc_read_net : FnScope ["text", "net"] ["text"] (defScope s_read_net) := ⟨rfl, rfl, rfl, by decide +kernel, rfl, by decide +kernel, by decide +kernel⟩
theorem sc_shown_row : FnScope ["net", "place", "ends", "other", "strength"] ["net", "place"] (defScope s_shown_row) := ⟨rfl, rfl, rfl, by decide +kernel, rfl, by decide +kernel, by decide +kernel⟩
theorem sc_told_net : FnScope ["text", "places", "lines", "row", "parts"] ["text"] (defScope s_told_net) := ⟨rfl, rfl, rfl, by decide +kernel, rfl, by decide +kernel, by decide +kernel⟩
theorem sc_told_rows : FnScope ["text"] ["text"] (defScope s_told_rows) := ⟨rfl, rfl, rfl, by decide +kernel, rfl, by decide +kernel, by decide +kernel⟩
theorem sc_told_lines : FnScope ["place", "told", "lines", "end", "words"] ["place", "told"] (defScope s_told_lines) := ⟨rfl, rfl, rfl, by decide +kernel, rfl, by decide +kernel, by decide +kernel⟩
theorem sc_l_cell_at : FnScope ["_law_script", "_law_k"] ["_law_script", "_law_k"] (defScope s_l_cell_at) := ⟨rfl, rfl, rfl, by decide +kernel, rfl, by decide +kernel, by decide +kernel⟩
theorem sc_l_mix : FnScope ["_law_cell", "_law_k", "_law_number"] ["_law_cell", "_law_k"] (defScope s_l_mix) := ⟨rfl, rfl, rfl, by decide +kernel, rfl, by decide +kernel, by decide +kernel⟩
theorem sc_l_names : FnScope ["_law_cell", "_law_many", "_law_letters", "_law_base", "_law_at", "_law_size", "_law_names_here", "_law_k", "_law_name"] ["_law_cell", "_law_many"] (defScope s_l_names) := ⟨rfl, rfl, rfl, by decide +kernel, rfl, by decide +kernel, by decide +kernel⟩
theorem sc_l_net : FnScope ["_law_script", "_law_names_here", "_law_bound", "_law_bits", "_law_sums", "_law_net_here", "_law_name", "_law_i", "_law_j", "_law_draws", "_law_first"] ["_law_script", "_law_names_here", "_law_bound"] (defScope s_l_net) := ⟨rfl, rfl, rfl, by decide +kernel, rfl, by decide +kernel, by decide +kernel⟩
theorem sc_l_written : FnScope ["_law_net_here", "_law_rows", "_law_one", "_law_lines", "_law_other"] ["_law_net_here"] (defScope s_l_written) := ⟨rfl, rfl, rfl, by decide +kernel, rfl, by decide +kernel, by decide +kernel⟩
theorem sc_l_turned : FnScope ["_law_net_here", "_law_found", "_law_one", "_law_other"] ["_law_net_here"] (defScope s_l_turned) := ⟨rfl, rfl, rfl, by decide +kernel, rfl, by decide +kernel, by decide +kernel⟩
theorem sc_l_numbers : FnScope ["_law_net_here", "_law_one", "_law_strength"] ["_law_net_here"] (defScope s_l_numbers) := ⟨rfl, rfl, rfl, by decide +kernel, rfl, by decide +kernel, by decide +kernel⟩
theorem sc_law : FnScope ["_law_script", "_law_names_here", "_law_net_here", "_law_due", "_law_turned_here", "_law_found", "_law_one"] ["_law_script"] (defScope s_law) := ⟨rfl, rfl, rfl, by decide +kernel, rfl, by decide +kernel, by decide +kernel⟩
end K06

set_option Elab.async false
set_option linter.all false
set_option maxRecDepth 100000
set_option maxHeartbeats 4000000
namespace K06
open PySem L2 PySem.Spec PyProof.Rows
section
variable {P : Program} {w : World} {K : PySem.W.Frag} {mg : Str → Option Value} {base : Heap} {t : Adr}
/-! ### a cell of the script -/
def sp_cell (K : PySem.W.Frag) : Sp := fun vs H Q _ => ∃ (a : Addr) (ns : List Int) (k : Int), vs = [.ref a, .int k] ∧ 0 ≤ k ∧ SqL K H a (ns.map V.int) ∧ Q (.int (ns.getD k.toNat 0)) H
theorem ok_l_cell_at (T : Txt K mg t) : FnOk P w K mg base CX0 1 t.l_cell_at t.fd_l_cell_at ["_law_script", "_law_k"] (sp_cell K) := by
  refine T.f_l_cell_at.fn.ok sc_l_cell_at (fun vs H Q E h => ?_) (fun cdv A outer s H vs Q E hr h => ?_)
  · obtain ⟨a, ns, k, rfl, _⟩ := h; rfl
  · obtain ⟨a, ns, k0, rfl, h0, hS, q⟩ := h
    obtain ⟨k, rfl⟩ := Int.eq_ofNat_of_zero_le h0
    rw [Int.toNat_natCast] at q
    refine ⟨_, (pss_cons (ps_if (pt_cmpR op_lt (pv 1) (pe_callB call_len (by rfl) T.b_len boot_len' (pa_cons (pv 0) pa_nil)) (nomark _))
        (pss_one (ps_ret (pe_ix ix_list (pv 0) (pv 1) (fun _ _ => rfl))))
        pss_nil)
      (pss_one (ps_ret pe_int))), ?_⟩
    refine ⟨_, rfl, _, rfl, .ref a, ns.length, rfl, .inl ⟨_, hS, by simp⟩, _, _, rfl, rfl, _, rfl, ?_⟩
    refine iteD (fun hk => ?_) (fun hk => ?_)
    · have hk' : k < ns.length := by omega
      refine ⟨_, rfl, _, rfl, a, _, _, .int ns[k], rfl, rfl, hS, atI_nat (by simp [hk']), ?_⟩
      rw [show ns.getD k 0 = ns[k] by simp [hk']] at q
      exact q
    · have hk' : ns.length ≤ k := by omega
      rw [show ns.getD k 0 = 0 by simp [hk']] at q
      exact q
/-! ### mixing -/
def sp_mix : Sp := fun vs H Q _ => ∃ (c k : Int), vs = [.int c, .int k] ∧ 0 ≤ k ∧ k ≤ 1000000000 ∧ Q (.int (mixF c k)) H
theorem ok_l_mix (T : Txt K mg t) : FnOk P w K mg base CX0 1 t.l_mix t.fd_l_mix ["_law_cell", "_law_k"] sp_mix := by
  refine T.f_l_mix.fn.ok sc_l_mix (fun vs H Q E h => ?_) (fun cdv A outer s H vs Q E hr h => ?_)
  · obtain ⟨c, k, rfl, _⟩ := h; rfl
  · obtain ⟨c, k, rfl, h0, hk, q⟩ := h
    have e1 := Int.emod_nonneg c (show (2147483647 : Int) ≠ 0 by decide)
    have e2 := Int.emod_lt_of_pos c (show (0 : Int) < 2147483647 by decide)
    refine ⟨_, (pss_cons (ps_set (i := 2) sc_l_mix.nd rfl (Or.inl rfl) (pe_op op_mod (pe_op op_mul (pe_op op_add (pe_op op_add (pe_op op_mod (pv 0) pe_int) (pe_op op_mul pe_int (pv 1))) pe_int) pe_int) pe_int))
      (pss_cons (ps_set (i := 2) sc_l_mix.nd rfl (Or.inl rfl) (pe_op op_mod (pe_op op_add (pe_op op_mul (pv 2) (pv 2)) (pv 1)) pe_int))
      (pss_one (ps_ret (pe_op op_mod (pe_op op_mul (pv 2) (pv 2)) pe_int))))), ?_⟩
    refine ⟨_, rfl, _, _, rfl, rfl, (by show (0 : Int) < 2147483647; decide), _, rfl, _, _, rfl, rfl, .inl ⟨by decide, by decide⟩, _, _, rfl, rfl, _, _, rfl, rfl, _, _, rfl, rfl, .inr ⟨by decide, by decide⟩, _, _, rfl, rfl, (by show (0 : Int) < 2147483647; decide), ?_⟩
    have f1 := Int.emod_nonneg ((c % 2147483647 + 7919 * k + 1) * 48271) (show (2147483647 : Int) ≠ 0 by decide)
    have f2 := Int.emod_lt_of_pos ((c % 2147483647 + 7919 * k + 1) * 48271) (show (0 : Int) < 2147483647 by decide)
    refine ⟨_, rfl, _, rfl, _, _, rfl, rfl, .inl ⟨by omega, by omega⟩, _, rfl, _, _, rfl, rfl, _, _, rfl, rfl, (by show (0 : Int) < 2147483629; decide), ?_⟩
    have g1 := Int.emod_nonneg ((c % 2147483647 + 7919 * k + 1) * 48271 % 2147483647 * ((c % 2147483647 + 7919 * k + 1) * 48271 % 2147483647) + k) (show (2147483629 : Int) ≠ 0 by decide)
    have g2 := Int.emod_lt_of_pos ((c % 2147483647 + 7919 * k + 1) * 48271 % 2147483647 * ((c % 2147483647 + 7919 * k + 1) * 48271 % 2147483647) + k) (show (0 : Int) < 2147483629 by decide)
    refine ⟨_, rfl, _, rfl, _, _, rfl, rfl, .inl ⟨by omega, by omega⟩, _, _, rfl, rfl, (by show (0 : Int) < 2147483587; decide), ?_⟩
    exact q
/-! ### signs of a text -/
def sp_made : Sp := fun vs H Q _ => ∃ (x y : Str), vs = [.str x, .str y] ∧ x.length < sizeLine ∧ ∀ H', Same H H' → Q (.bl ((cs x).all fun c => !(Builtin.Str.occurrences y ⟨#[c]⟩ 0 y.length 1).isEmpty)) H'
theorem ok_is_made_of (T : Txt K mg t) : FnOk P w K mg base CX0 1 t.is_made_of t.fd_is_made_of ["text", "signs"] sp_made := by
  refine T.f_is_made_of.fn.ok sc_is_made_of (fun vs H Q E h => ?_) (fun cdv A outer s H vs Q E hr h => ?_)
  · obtain ⟨x, y, rfl, _⟩ := h; rfl
  · obtain ⟨x, y, rfl, hz, q⟩ := h
    refine ⟨_, (pss_one (ps_ret (pe_callB call_all (by rfl) T.b_all boot_all' (pa_cons (pe_comp ["sign"] [1] rfl (pi_str (pv 0)) (fun _ _ _ _ _ => (pg_name (i := 0) (show (["sign", "signs"] : List Str).Nodup by decide +kernel) rfl (Or.inl rfl))) (fun _ _ _ _ _ => pif_nil) (fun _ _ _ _ _ => (pe_cmpR op_in_str (pv 0) (pv 1) rfl)) ⟨⟨_, rfl, rfl, .inl rfl⟩, trivial⟩ (hfr := by show ∀ y ∈ (_ : List (Str × NameKind)), y.2 = NameKind.free → (defScope s_is_made_of).names.lookup y.1 = some NameKind.cell ∨ (defScope s_is_made_of).names.lookup y.1 = some NameKind.free; decide +kernel)) pa_nil)))), ?_⟩
    refine ⟨_, rfl, x, rfl, ?_⟩
    refine comp_inv x.length (fun i ys H' => H' = H ∧ ys = ((cs x).take i).map fun c => V.bl (!(Builtin.Str.occurrences y ⟨#[c]⟩ 0 y.length 1).isEmpty)) ⟨rfl, rfl⟩ (fun i ys H' p => ?_) (fun i ys H' hi p => ?_) (fun ys H' p => ?_)
    · rw [p.2, List.length_map, List.length_take, cs_len]
      exact Nat.lt_of_le_of_lt (Nat.min_le_right _ _) hz
    · obtain ⟨rfl, rfl⟩ := p
      refine ⟨hi, ?_⟩
      rintro v H2 ⟨rfl, c, hc, rfl⟩
      simp only [gName, tYes, ↓reduceIte]
      refine ⟨_, rfl, _, rfl, _, _, rfl, rfl, nxC hi ⟨rfl, ?_⟩⟩
      rw [List.take_add_one, hc, List.map_append]
      rfl
    · obtain ⟨rfl, rfl⟩ := p
      refine ⟨Nat.le_refl _, fun p hp => ⟨rfl, p, (cs x).map (fun c => (!(Builtin.Str.occurrences y ⟨#[c]⟩ 0 y.length 1).isEmpty)), rfl, .inl (.inl ?_), ?_⟩⟩
      · rw [upd_same, List.take_of_length_le (by rw [cs_len]; exact Nat.le_refl _), List.map_map]
        rfl
      · rw [List.all_map]
        exact q _ (Same.updN hp)
/-! ### names -/
def sp_isname (K : PySem.W.Frag) : Sp := fun vs H Q _ => ∃ v d, vs = [v] ∧ Rep K H v d ∧ (∀ x, d = .str x → x.length < sizeLine) ∧ ∀ H', Same H H' → Q (.bl (nameD d)) H'
theorem ok_is_name (T : Txt K mg t) : FnOk P w K mg base CX0 2 t.is_name t.fd_is_name ["thing"] (sp_isname K) := by
  refine T.f_is_name.fn.ok sc_is_name (fun vs H Q E h => ?_) (fun cdv A outer s H vs Q E hr h => ?_)
  · obtain ⟨v, d, rfl, _⟩ := h; rfl
  · obtain ⟨v, d, rfl, hd, hz, q⟩ := h
    refine ⟨_, (pss_cons (ps_if (pt_not (pt_val (pe_callB call_isi (by rfl) T.b_isinstance boot_isinstance' (pa_cons (pv 0) (pa_cons (pe_bltn (v := .ty "str") rfl T.b_str boot_ty_str rfl) pa_nil)))))
        (pss_one (ps_ret pe_bl))
        pss_nil)
      (pss_one (ps_ret (pe_and (pe_chain op_le op_le pe_int (pe_callB call_len (by rfl) T.b_len boot_len' (pa_cons (pv 0) pa_nil)) (pe_glob (v := .int 8) rfl T.c_LONGEST_NAME ⟨_, rfl⟩)) (pe_one (pe_call (ok_is_made_of T) (hr.mono (by decide)) rfl T.f_is_made_of.mg T.f_is_made_of.kp T.f_is_made_of.bd .nil pass0 (pa_cons (pv 0) (pa_cons (pe_glob (v := .str "abcdefghijklmnopqrstuvwxyz") rfl T.c_LETTERS ⟨_, rfl⟩) pa_nil)))))))), ?_⟩
    refine ⟨_, rfl, _, d, "str", rfl, hd, rfl, _, rfl, ?_⟩
    rw [isiB_str]
    cases d with
    | str x =>
      cases hd
      have hx := hz x rfl
      refine iteF ⟨_, rfl, .str x, x.length, rfl, ⟨Nat.le_of_lt hx, rfl⟩, _, _, rfl, rfl, _, rfl, ?_⟩
      refine iteD (fun h1 => ⟨_, _, rfl, rfl, _, rfl, ?_⟩) (fun h1 => ⟨_, rfl, ?_⟩)
      · refine iteD (fun h2 => ⟨_, rfl, x, _, rfl, hx, fun H' hH => ?_⟩) (fun h2 => ?_)
        · have e : nameD (.str x) = ((cs x).all fun c => !(Builtin.Str.occurrences lettersS ⟨#[c]⟩ 0 lettersS.length 1).isEmpty) := by
            simp only [nameD, StrLaws.found_one]
            rw [decide_eq_true (by omega : 1 ≤ x.length), decide_eq_true (by omega : x.length ≤ 8)]
            rfl
          rw [e] at q
          exact q _ hH
        · have e : nameD (.str x) = false := by
            simp only [nameD]
            rw [decide_eq_false (by omega : ¬ x.length ≤ 8)]; simp
          rw [e] at q
          exact q _ (Same.refl _)
      · have e : nameD (.str x) = false := by
          simp only [nameD]
          rw [decide_eq_false (by omega : ¬ 1 ≤ x.length)]; simp
        rw [e] at q
        exact q _ (Same.refl _)
    | _ => exact iteT (q _ (Same.refl _))
def sp_isstr (K : PySem.W.Frag) : Sp := fun vs H Q _ => ∃ v d, vs = [v] ∧ Rep K H v d ∧ Q (.bl (strengthD d)) H
theorem ok_is_strength (T : Txt K mg t) : FnOk P w K mg base CX0 1 t.is_strength t.fd_is_strength ["thing"] (sp_isstr K) := by
  refine T.f_is_strength.fn.ok sc_is_strength (fun vs H Q E h => ?_) (fun cdv A outer s H vs Q E hr h => ?_)
  · obtain ⟨v, d, rfl, _⟩ := h; rfl
  · obtain ⟨v, d, rfl, hd, q⟩ := h
    refine ⟨_, (pss_cons (ps_if (PW.pt (pw_or (pt_val (pe_callB call_isi (by rfl) T.b_isinstance boot_isinstance' (pa_cons (pv 0) (pa_cons (pe_bltn (v := .ty "bool") rfl T.b_bool boot_ty_bool rfl) pa_nil)))) (pw_or1 (pt_not (pt_val (pe_callB call_isi (by rfl) T.b_isinstance boot_isinstance' (pa_cons (pv 0) (pa_cons (pe_bltn (v := .ty "int") rfl T.b_int boot_ty_int rfl) pa_nil))))))))
        (pss_one (ps_ret pe_bl))
        pss_nil)
      (pss_one (ps_ret (pe_chain op_le op_le pe_int (pv 0) (pe_glob (v := .int 1000000000) rfl T.c_GREATEST_STRENGTH ⟨_, rfl⟩))))), ?_⟩
    refine ⟨_, rfl, _, d, "bool", rfl, hd, rfl, _, rfl, ?_⟩
    cases d with
    | int i =>
      cases hd
      refine iteF ⟨_, rfl, _, .int i, "int", rfl, .int i, rfl, _, rfl, iteF ⟨_, rfl, _, _, rfl, rfl, _, rfl, ?_⟩⟩
      refine iteD (fun h1 => ⟨_, _, rfl, rfl, ?_⟩) (fun h1 => ?_)
      · simp only [strengthD, decide_eq_true h1, Bool.true_and] at q
        exact q
      · simp only [strengthD, decide_eq_false h1, Bool.false_and] at q
        exact q
    | bl b => exact iteT q
    | _ => exact iteF ⟨_, rfl, _, _, "int", rfl, hd, rfl, _, rfl, iteT q⟩
def sp_has (K : PySem.W.Frag) : Sp := fun vs H Q _ => ∃ a v kvs d, vs = [.ref a, v] ∧ Rd H a (.dK kvs) ∧ Rep K H v d ∧ Q (.bl (hasD kvs d)) H
theorem ok_has_place (T : Txt K mg t) : FnOk P w K mg base CX0 1 t.has_place t.fd_has_place ["net", "thing"] (sp_has K) := by
  refine T.f_has_place.fn.ok sc_has_place (fun vs H Q E h => ?_) (fun cdv A outer s H vs Q E hr h => ?_)
  · obtain ⟨a, v, kvs, d, rfl, _⟩ := h; rfl
  · obtain ⟨a, v, kvs, d, rfl, hA, hd, q⟩ := h
    have hu := hu_of hr
    refine ⟨_, (pss_one (ps_ret (pe_and (pe_callB call_isi (by rfl) T.b_isinstance boot_isinstance' (pa_cons (pv 1) (pa_cons (pe_bltn (v := .ty "str") rfl T.b_str boot_ty_str rfl) pa_nil))) (pe_one (pe_cmp (pc_din hu (pv 1) (pv 0))))))), ?_⟩
    refine ⟨_, rfl, _, d, "str", rfl, hd, rfl, _, rfl, ?_⟩
    rw [isiB_str]
    cases d with
    | str x =>
      cases hd
      exact iteT ⟨_, rfl, _, rfl, a, _, rfl, .inl ⟨kvs, Sum.inr x, hA, rfl, rfl⟩, q⟩
    | _ => exact iteF q
def sp_join : Sp := fun vs H Q _ => ∃ (a : Addr) (bs : Outer) (g : Str → L2.Row) (x y : Str) (b1 b2 : Addr) (m : Int), vs = [.ref a, .str x, .str y, .int m] ∧ NetAt H a bs g ∧ addrOf bs x = some b1 ∧ addrOf bs y = some b2 ∧ x ≠ y ∧ (g x).length < sizeLine ∧ (g y).length < sizeLine ∧
  ∀ H', NetAt H' a bs (putB g x y ((look (g x) y).getD 0 + m)) → (∀ b, b ≠ b1 → b ≠ b2 → H' b = H b) → Q .non H'
theorem ok_join_line (T : Txt K mg t) : FnOk P w K mg base CX0 1 t.join_line t.fd_join_line ["net", "one", "other", "many"] sp_join := by
  refine T.f_join_line.fn.ok sc_join_line (fun vs H Q E h => ?_) (fun cdv A outer s H vs Q E hr h => ?_)
  · obtain ⟨a, bs, g, x, y, b1, b2, m, rfl, _⟩ := h; rfl
  · obtain ⟨a, bs, g, x, y, b1, b2, m, rfl, hN, hb1, hb2, hne, hl1, hl2, q⟩ := h
    have hu := hu_of hr
    refine ⟨_, (pss_cons (ps_set (i := 4) sc_join_line.nd rfl (Or.inl rfl) (pe_op op_add (pe_dget2 hu (pe_dget hu (pv 0) (pv 1) (fun _ _ => rfl)) (pv 2) pe_int ⟨rfl, rfl, rfl, rfl⟩) (pv 3)))
      (pss_cons (ps_dput hu (pe_dget hu (pv 0) (pv 1) (fun _ _ => rfl)) (pv 2) (pv 4) rfl)
      (pss_one (ps_dput hu (pe_dget hu (pv 0) (pv 2) (fun _ _ => rfl)) (pv 1) (pv 4) rfl)))), ?_⟩
    refine ⟨_, rfl, _, rfl, a, _, rfl, hN.r.dget hb1, b1, rfl, .inl ⟨_, hN.r.inn _ (addrOf_mem hb1)⟩, _, rfl, _, hN.r.rget hb1, _, rfl, _, _, optget _, rfl, ?_⟩
    obtain ⟨p1, p2⟩ := hN.put hb1 ((look (g x) y).getD 0 + m) y hl1
    refine ⟨_, rfl, _, rfl, _, rfl, a, _, rfl, hN.r.dget hb1, _, rfl, b1, _, rfl, p1, ?_⟩
    obtain ⟨p3, p4⟩ := p2.put hb2 ((look (g x) y).getD 0 + m) x (by rw [putR_ne (Ne.symm hne)]; exact hl2)
    refine ⟨_, rfl, _, rfl, _, rfl, a, _, rfl, p2.r.dget hb2, _, rfl, b2, _, rfl, p3, q _ p4 (fun b h1 h2 => ?_)⟩
    rw [upd_ne h2, upd_ne h1]
def sp_names : Sp := fun vs H Q _ => ∃ (c n : Int), vs = [.int c, .int n] ∧ 0 ≤ n ∧ n ≤ 26 ∧ ∀ (p : Addr) (H' : Hp) (ss : List Str), Same H H' → H p = none → H' p = some (.lst (ss.map V.str)) → ss.length = n.toNat → ss.Nodup → (∀ s ∈ ss, isNm s) → Q (.ref p) H'
theorem ok_l_names (T : Txt K mg t) : FnOk P w K mg base CX0 2 t.l_names t.fd_l_names ["_law_cell", "_law_many"] sp_names := by
  refine T.f_l_names.fn.ok sc_l_names (fun vs H Q E h => ?_) (fun cdv A outer s H vs Q E hr h => ?_)
  · obtain ⟨c, n, rfl, _⟩ := h; rfl
  · obtain ⟨c, n0, rfl, hn0, hn, q⟩ := h
    obtain ⟨n, rfl⟩ := Int.eq_ofNat_of_zero_le hn0
    refine ⟨_, (pss_cons (ps_set (i := 2) sc_l_names.nd rfl (Or.inr rfl) pe_str)
      (pss_cons (ps_set (i := 3) sc_l_names.nd rfl (Or.inl rfl) (pe_bm PySem.F.plainAttrs_str PySem.F.slot_str_join PySem.F.type_str_join mt_join pe_str (pa_cons (pe_comp ["_law_j"] [2, 0] rfl (pi_range1 rfl T.b_range (pa_cons pe_int pa_nil)) (fun _ _ _ _ _ => (pg_name (i := 0) (show (["_law_j", "_law_letters", "_law_cell"] : List Str).Nodup by decide +kernel) rfl (Or.inl rfl))) (fun _ _ _ _ _ => pif_nil) (fun _ _ _ _ _ => (pe_ix ix_str (pv 1) (pe_op op_mod (pe_call (ok_l_mix T) (hr.mono (by decide)) rfl T.f_l_mix.mg T.f_l_mix.kp T.f_l_mix.bd .nil pass0 (pa_cons (pv 2) (pa_cons (pv 0) pa_nil))) pe_int) (fun _ _ => rfl))) ⟨⟨_, rfl, rfl, .inl rfl⟩, ⟨⟨_, rfl, rfl, .inl rfl⟩, trivial⟩⟩ (hfr := by show ∀ y ∈ (_ : List (Str × NameKind)), y.2 = NameKind.free → (defScope s_l_names).names.lookup y.1 = some NameKind.cell ∨ (defScope s_l_names).names.lookup y.1 = some NameKind.free; decide +kernel)) pa_nil)))
      (pss_cons (ps_set (i := 4) sc_l_names.nd rfl (Or.inl rfl) (pe_op op_mod (pe_call (ok_l_mix T) (hr.mono (by decide)) rfl T.f_l_mix.mg T.f_l_mix.kp T.f_l_mix.bd .nil pass0 (pa_cons (pv 0) (pa_cons pe_int pa_nil))) pe_int))
      (pss_cons (ps_set (i := 5) sc_l_names.nd rfl (Or.inl rfl) (pe_op op_add pe_int (pe_op op_mod (pv 0) pe_int)))
      (pss_cons (ps_set (i := 6) sc_l_names.nd rfl (Or.inl rfl) (pe_lst pa_nil))
      (pss_cons (ps_for PassesOwn.never rfl (pi_range1 rfl T.b_range (pa_cons (pv 1) pa_nil)) (pg_name (i := 7) sc_l_names.nd rfl (Or.inl rfl))
        (pss_cons (ps_set (i := 8) sc_l_names.nd rfl (Or.inl rfl) (pe_op op_add_str (pe_op op_add_str (pe_slice sl_str (pv 3) po_none (po_some (pv 4))) (pe_ix ix_str (pv 2) (pe_op op_mod (pe_op op_add (pe_call (ok_l_mix T) (hr.mono (by decide)) rfl T.f_l_mix.mg T.f_l_mix.kp T.f_l_mix.bd .nil pass0 (pa_cons (pv 0) (pa_cons pe_int pa_nil))) (pv 7)) pe_int) (fun _ _ => rfl))) (pe_slice sl_str (pv 3) (po_some (pv 4)) po_none)))
      (pss_one (ps_expr (pe_bm PySem.F.plainAttrs_list PySem.F.slot_list_append PySem.F.type_list_append mt_append (pv 6) (pa_cons (pe_slice sl_str (pv 8) po_none (po_some (pe_callB (call_max2 rfl) (by rfl) T.b_max boot_max' (pa_cons (pe_op op_add (pv 4) pe_int) (pa_cons (pe_ix ix_list (pe_lst (pa_cons (pv 5) (pa_cons (pe_op op_add pe_int (pe_op op_mod (pe_op op_add (pv 5) (pe_op op_mul pe_int (pv 7))) pe_int)) pa_nil))) (pe_op op_mod (pe_op op_fdiv (pv 0) pe_int) pe_int) (fun _ _ => rfl)) pa_nil))))) pa_nil))))))
      (pss_one (ps_ret (pv 6))))))))), ?_⟩
    refine ⟨rfl, 7, rfl, by decide, by decide, ?_⟩
    refine comp_inv 7 (fun i ys H' => i ≤ 7 ∧ H' = H ∧ ∃ ls : List Nat, ys = ls.map (fun c => V.str ⟨#[c]⟩) ∧ ls.length = i ∧ ∀ c ∈ ls, 97 ≤ c ∧ c ≤ 122) ⟨by decide, rfl, [], rfl, rfl, fun _ h => absurd h (by simp)⟩ (fun i ys H' p => ?_) (fun i ys H' hi p => ?_) (fun ys H' p => ?_)
    · obtain ⟨h7, _, ls, rfl, hl, _⟩ := p
      rw [List.length_map, hl]
      exact small1000 (by omega)
    · obtain ⟨_, rfl, ls, rfl, hl, hc⟩ := p
      refine ⟨hi, ?_⟩
      rintro v H2 ⟨rfl, rfl⟩
      simp only [gName, tYes, ↓reduceIte, Int.zero_add]
      refine ⟨_, rfl, _, rfl, _, rfl, c, i, rfl, by omega, by omega, _, _, rfl, rfl, (by show (0 : Int) < 26; decide), _, _, _, rfl, rfl, (by decide +kernel), letter_at (Int.emod_nonneg _ (by decide)) (Int.emod_lt_of_pos _ (by decide)), nxC hi ⟨hi, rfl, ls ++ [97 + (mixF c i % 26).toNat], ?_, ?_, ?_⟩⟩
      · rw [List.map_append]; rfl
      · simp [hl]
      · intro d hd
        rcases List.mem_append.mp hd with q | q
        · exact hc d q
        · rw [List.mem_singleton.mp q]
          have a1 := Int.emod_nonneg (mixF c i) (show (26 : Int) ≠ 0 by decide)
          have a2 := Int.emod_lt_of_pos (mixF c i) (show (0 : Int) < 26 by decide)
          omega
    · obtain ⟨_, rfl, ls, rfl, hl, hc⟩ := p
      refine ⟨Nat.le_refl _, fun p0 hp0 => ⟨_, p0, ls.map (fun c => ⟨#[c]⟩), rfl, rfl, .inl (.inl ?_), ?_, ?_⟩⟩
      · rw [upd_same, List.map_map]; rfl
      · have e1 : (ls.map (fun c => (⟨#[c]⟩ : Str))).map (·.length) = List.replicate 7 1 := by
          rw [List.map_map, List.eq_replicate_iff]
          refine ⟨by rw [List.length_map, hl], fun b hb => ?_⟩
          obtain ⟨d, _, rfl⟩ := List.mem_map.mp hb
          rfl
        rw [e1, List.length_map, hl]
        decide +kernel
      · have hB := join_signs ls
        generalize joinS "" (ls.map fun c => ⟨#[c]⟩) = B at hB
        have hb7 : (cs B).length = 7 := by rw [hB, hl]
        have hbl : B.length = 7 := by rw [← cs_len]; exact hb7
        have hbs : B.length ≤ sizeLine := by rw [hbl]; decide
        have hbc : ∀ d ∈ cs B, 97 ≤ d ∧ d ≤ 122 := by rw [hB]; exact hc
        refine ⟨_, rfl, c, 9, rfl, by decide, by decide, _, _, rfl, rfl, (by show (0 : Int) < 6; decide), ?_⟩
        have a1 := Int.emod_nonneg (mixF c 9) (show (6 : Int) ≠ 0 by decide)
        have a2 := Int.emod_lt_of_pos (mixF c 9) (show (0 : Int) < 6 by decide)
        refine ⟨_, rfl, _, _, rfl, rfl, (by show (0 : Int) < 6; decide), _, _, rfl, rfl, ?_⟩
        have b1 := Int.emod_nonneg c (show (6 : Int) ≠ 0 by decide)
        have b2 := Int.emod_lt_of_pos c (show (0 : Int) < 6 by decide)
        refine ⟨(by decide), fun p hp => ?_⟩
        have hS1 := Same.updN (o := .lst (ls.map fun c => V.str ⟨#[c]⟩)) hp0
        refine ⟨_, rfl, (n : Int), rfl, by omega, by omega, ?_⟩
        refine for_range (n := (n : Int).toNat) (fun i σ H2 => ∃ x7 x8 ss, σ = [some (.int c), some (.int n), some (.str lettersS), some (.str B), some (.int (mixF c 9 % 6)), some (.int (2 + c % 6)), some (.ref p), x7, x8] ∧ Same H' H2 ∧ H2 p = some (.lst (ss.map V.str)) ∧ Nms (mixF c 9 % 6).toNat (mixF c 8) i ss) ?_ (fun i σ H2 hi pv => ?_) (fun σ H2 pv => ?_)
        · exact ⟨none, none, [], rfl, hS1.trans (Same.updN hp), upd_same, Nms.nil _ _⟩
        · obtain ⟨x7, x8, ss, rfl, hS, hP, hN⟩ := pv
          have hi' : i < n := by omega
          simp only [Int.zero_add]
          have m1 := Int.emod_nonneg (mixF c 8 + i) (show (26 : Int) ≠ 0 by decide)
          have m2 := Int.emod_lt_of_pos (mixF c 8 + i) (show (0 : Int) < 26 by decide)
          refine ⟨_, rfl, _, rfl, _, rfl, _, rfl, hbs, _, rfl, _, rfl, c, 8, rfl, by decide, by decide, _, rfl, _, _, rfl, rfl, _, _, rfl, rfl, (by show (0 : Int) < 26; decide), _, _, _, rfl, rfl, (by decide +kernel), letter_at m1 m2, _, _, rfl, rfl, ?_, ?_⟩
          · have := cutS_len B none (some (mixF c 9 % 6))
            show _ + 1 ≤ sizeLine
            exact sz (by omega)
          · refine ⟨_, rfl, _, rfl, _, rfl, _, rfl, hbs, _, _, rfl, rfl, ?_, ?_⟩
            · have h1 := cutS_len B none (some (mixF c 9 % 6))
              have h2 := cutS_len B (some (mixF c 9 % 6)) none
              rw [str_len]
              show _ + 1 + _ ≤ sizeLine
              exact sz (by omega)
            · generalize hx : (cutS B none (some (mixF c 9 % 6)) ++ ⟨#[97 + ((mixF c 8 + i) % 26).toNat]⟩ ++ cutS B (some (mixF c 9 % 6)) none : Str) = X
              have hX : cs X = (cs B).take (mixF c 9 % 6).toNat ++ [97 + ((mixF c 8 + i) % 26).toNat] ++ (cs B).drop (mixF c 9 % 6).toNat := by
                rw [← hx, cs_append, cs_append, cutS_lo _ a1, cutS_hi _ a1]
              have hXl : X.length ≤ sizeLine := by rw [← cs_len, hX]; simp only [List.length_append, List.length_take, List.length_drop, hb7, List.length_singleton]; exact sz (by omega)
              obtain ⟨v, ⟨v1, v2⟩, hv⟩ := pick2b (P := fun v => 2 ≤ v ∧ v ≤ 8) (x := 2 + c % 6) (y := 2 + (2 + c % 6 + 5 * i) % 7) (c := c / 6) (by omega) (by omega)
              refine ⟨_, rfl, .inl ⟨rfl, _, SqL.of hP⟩, _, rfl, _, rfl, _, _, rfl, rfl, _, rfl, _, rfl, _, rfl, _, _, rfl, rfl, .inl ⟨by decide, by decide⟩, _, _, rfl, rfl, _, _, rfl, rfl, (by show (0 : Int) < 7; decide), _, _, rfl, rfl, (by show 2 ≤ sizeLine; decide), fun q1 hq1 => ?_⟩
              refine ⟨_, rfl, _, _, rfl, rfl, ⟨by decide, by decide⟩, _, _, rfl, rfl, (by show (0 : Int) < 2; decide), _, _, _, _, rfl, rfl, SqL.of upd_same, hv, _, _, rfl, _, rfl, _, rfl, hXl, ?_⟩
              have n1 : (mixF c 9 % 6) + 1 ≤ (if v > (mixF c 9 % 6) + 1 then v else (mixF c 9 % 6) + 1) := by split <;> omega
              have n2 : (if v > (mixF c 9 % 6) + 1 then v else (mixF c 9 % 6) + 1) ≤ 8 := by split <;> omega
              have pq : p ≠ q1 := ne_of_none hP hq1
              obtain ⟨g1, g2⟩ := nm_made (base := B) (at' := (mixF c 9 % 6).toNat) (n := (if v > (mixF c 9 % 6) + 1 then v else (mixF c 9 % 6) + 1).toNat) (c := 97 + ((mixF c 8 + i) % 26).toNat) (x := cutS X none (some (if v > (mixF c 9 % 6) + 1 then v else (mixF c 9 % 6) + 1))) hb7 hbc (by omega) (by omega) (by omega) (by omega) (by rw [cutS_lo _ (by omega), hX])
              refine ⟨p, _, _, rfl, rfl, (by rw [upd_ne pq]; exact hP), ?_, _, _, ss ++ [cutS X none (some (if v > (mixF c 9 % 6) + 1 then v else (mixF c 9 % 6) + 1))], rfl, ?_, ?_, hN.snoc (by omega) g1 g2⟩
              · rw [List.length_map, hN.1]; exact szl (by omega)
              · exact (hS.trans (Same.updN hq1)).upd (hS1.free hp)
              · rw [upd_same, List.map_append]; rfl
        · obtain ⟨x7, x8, ss, rfl, hS, hP, hN⟩ := pv
          refine ⟨_, rfl, q p H2 ss hS (hS1.free hp) hP ?_ hN.2.1 hN.2.2.1⟩
          rw [hN.1]
def sp_net (K : PySem.W.Frag) : Sp := fun vs H Q _ => ∃ (a b : Addr) (ns : List Int) (ks : List Str) (B : Int), vs = [.ref a, .ref b, .int B] ∧ SqL K H a (ns.map V.int) ∧ SqL K H b (ks.map V.str) ∧ ks.Nodup ∧ ks.length ≤ 12 ∧ 0 < B ∧ B < 1073741824 ∧
  ∀ p H', NS H p ks B H' → Q (.ref p) H'
theorem ok_l_net (T : Txt K mg t) : FnOk P w K mg base CX0 2 t.l_net t.fd_l_net ["_law_script", "_law_names_here", "_law_bound"] (sp_net K) := by
  refine T.f_l_net.fn.ok sc_l_net (fun vs H Q E h => ?_) (fun cdv A outer s H vs Q E hr h => ?_)
  · obtain ⟨a, b, ns, ks, B, rfl, _⟩ := h; rfl
  · obtain ⟨a, b, ns, ks, B, rfl, hA, hK, hnd, hlen, hB0, hB1, q⟩ := h
    have hu := hu_of hr
    refine ⟨_, (pss_cons (ps_set (i := 3) sc_l_net.nd rfl (Or.inl rfl) (pe_call (ok_l_cell_at T) (hr.mono (by decide)) rfl T.f_l_cell_at.mg T.f_l_cell_at.kp T.f_l_cell_at.bd .nil pass0 (pa_cons (pv 0) (pa_cons pe_int pa_nil))))
      (pss_cons (ps_set (i := 4) sc_l_net.nd rfl (Or.inl rfl) (pe_call (ok_l_cell_at T) (hr.mono (by decide)) rfl T.f_l_cell_at.mg T.f_l_cell_at.kp T.f_l_cell_at.bd .nil pass0 (pa_cons (pv 0) (pa_cons pe_int pa_nil))))
      (pss_cons (ps_set (i := 5) sc_l_net.nd rfl (Or.inl rfl) pe_dnewK)
      (pss_cons (ps_for PassesOwn.never rfl (pi_list (pv 1)) (pg_name (i := 6) sc_l_net.nd rfl (Or.inl rfl))
        (pss_one (ps_dput hu (pv 5) (pv 6) pe_dnewK rfl)))
      (pss_cons (ps_for PassesOwn.never rfl (pi_range1 rfl T.b_range (pa_cons (pe_callB call_len (by rfl) T.b_len boot_len' (pa_cons (pv 1) pa_nil)) pa_nil)) (pg_name (i := 7) sc_l_net.nd rfl (Or.inl rfl))
        (pss_one (ps_for PassesOwn.never rfl (pi_range2 rfl T.b_range (pa_cons (pe_op op_add (pv 7) pe_int) (pa_cons (pe_callB call_len (by rfl) T.b_len boot_len' (pa_cons (pv 1) pa_nil)) pa_nil))) (pg_name (i := 8) sc_l_net.nd rfl (Or.inl rfl))
        (pss_cons (ps_set (i := 9) sc_l_net.nd rfl (Or.inl rfl) (pe_lst (pa_cons (pv 3) (pa_cons (pv 4) pa_nil))))
      (pss_cons (ps_if (pt_cmpR op_eq (pe_op op_mod (pe_op op_fdiv (pe_call (ok_l_cell_at T) (hr.mono (by decide)) rfl T.f_l_cell_at.mg T.f_l_cell_at.kp T.f_l_cell_at.bd .nil pass0 (pa_cons (pv 0) (pa_cons pe_int pa_nil))) pe_int) pe_int) pe_int (nomark _))
        (pss_cons (ps_set (i := 10) sc_l_net.nd rfl (Or.inl rfl) (pe_call (ok_l_mix T) (hr.mono (by decide)) rfl T.f_l_mix.mg T.f_l_mix.kp T.f_l_mix.bd .nil pass0 (pa_cons (pe_call (ok_l_cell_at T) (hr.mono (by decide)) rfl T.f_l_cell_at.mg T.f_l_cell_at.kp T.f_l_cell_at.bd .nil pass0 (pa_cons (pv 0) (pa_cons pe_int pa_nil))) (pa_cons (pe_op op_add (pe_op op_mul pe_int (pv 7)) (pv 8)) pa_nil))))
      (pss_one (ps_set (i := 9) sc_l_net.nd rfl (Or.inl rfl) (pe_lst (pa_cons (pe_op op_fdiv (pe_op op_mod (pe_op op_fdiv (pv 10) pe_int) pe_int) (pe_op op_add pe_int (pe_op op_mod (pe_call (ok_l_cell_at T) (hr.mono (by decide)) rfl T.f_l_cell_at.mg T.f_l_cell_at.kp T.f_l_cell_at.bd .nil pass0 (pa_cons (pv 0) (pa_cons pe_int pa_nil))) pe_int))) (pa_cons (pe_op op_mul (pv 10) (pv 10)) pa_nil))))))
        pss_nil)
      (pss_cons (ps_if (pt_cmpR op_eq (pe_op op_mod (pe_ix ix_list (pv 9) pe_int (fun _ _ => rfl)) pe_int) pe_int (nomark _))
        (pss_cons (ps_dput hu (pe_dget hu (pv 5) (pe_ix ix_list (pv 1) (pv 7) (fun _ _ => rfl)) (fun _ _ => rfl)) (pe_ix ix_list (pv 1) (pv 8) (fun _ _ => rfl)) (pe_op op_add pe_int (pe_op op_mod (pe_ix ix_list (pv 9) pe_int (fun _ _ => rfl)) (pv 2))) rfl)
      (pss_one (ps_dput hu (pe_dget hu (pv 5) (pe_ix ix_list (pv 1) (pv 8) (fun _ _ => rfl)) (fun _ _ => rfl)) (pe_ix ix_list (pv 1) (pv 7) (fun _ _ => rfl)) (pe_op op_add pe_int (pe_op op_mod (pe_ix ix_list (pv 9) pe_int (fun _ _ => rfl)) (pv 2))) rfl)))
        pss_nil)
      (pss_cons (ps_set (i := 3) sc_l_net.nd rfl (Or.inl rfl) (pe_op op_fdiv (pv 3) pe_int))
      (pss_one (ps_set (i := 4) sc_l_net.nd rfl (Or.inl rfl) (pe_op op_fdiv (pv 4) (pv 2)))))))))))
      (pss_one (ps_ret (pv 5)))))))), ?_⟩
    refine ⟨_, rfl, a, ns, 2, rfl, by decide, hA, _, rfl, a, ns, 3, rfl, by decide, hA, fun p hp => ?_⟩
    generalize ns.getD (2 : Int).toNat 0 = bits0
    generalize ns.getD (3 : Int).toNat 0 = sums0
    refine ⟨_, rfl, b, rfl, ⟨_, (Same.updN hp).seq hK⟩, for_list (xs := ks.map V.str) (fun i σ H2 => ∃ x6 bs, σ = [some (.ref a), some (.ref b), some (.int B), some (.int bits0), some (.int sums0), some (.ref p), x6, none, none, none, none] ∧ Same H H2 ∧ NetAt H2 p bs (fun _ => []) ∧ bs.map (·.1) = ks.take i ∧ New H p bs) ?_ (fun i σ H2 hi pv => ?_) (fun i x σ H2 hx pv => ?_) (fun σ H2 pv => ?_)⟩
    · refine ⟨none, [], rfl, Same.updN hp, ⟨upd_same, fun _ h => absurd h (by simp), List.nodup_nil, by simp⟩, rfl, hp, fun _ h => absurd h (by simp)⟩
    · obtain ⟨x6, bs, rfl, hS, _⟩ := pv
      exact hS.seq hK
    · obtain ⟨x6, bs, rfl, hS, hN, hbs, hnew⟩ := pv
      rw [List.getElem?_map] at hx
      cases hk : ks[i]? with
      | none => rw [hk] at hx; cases hx
      | some k =>
      rw [hk] at hx
      cases hx
      have hfresh : k ∉ bs.map (·.1) := by
        rw [hbs]
        intro hm
        obtain ⟨j, hj⟩ := List.getElem?_of_mem hm
        rw [List.getElem?_take] at hj
        split at hj
        · rename_i hji
          have := List.pairwise_iff_getElem.mp hnd
          obtain ⟨h1, e1⟩ := List.getElem?_eq_some_iff.mp hj
          obtain ⟨h2, e2⟩ := List.getElem?_eq_some_iff.mp hk
          exact this j i h1 h2 hji (e1.trans e2.symm)
        · cases hj
      have hbl : bs.length ≤ 12 := by
        have := congrArg List.length hbs
        rw [List.length_map, List.length_take] at this
        omega
      intro r hr'
      obtain ⟨d1, d2⟩ := hN.add (x := k) hfresh hr' (szl (by omega)) rfl
      refine ⟨_, rfl, _, rfl, p, _, rfl, d1, _, bs ++ [(k, r)], rfl, ?_, d2, ?_, hnew.1, fun z hz => ?_⟩
      · exact (hS.trans (Same.updN hr')).upd hp
      · rw [List.map_append, hbs, List.take_add_one, hk]; rfl
      · rcases List.mem_append.mp hz with c | c
        · exact hnew.2 z c
        · rw [List.mem_singleton.mp c]; exact hS.free hr'
    · obtain ⟨x6, bs, rfl, hS, hN, hbs, hnew⟩ := pv
      rw [List.length_map, List.take_of_length_le (Nat.le_refl _)] at hbs
      have hNS : NS H p ks B H2 := ⟨bs, _, hS, hN, hbs, hnew, GNet.nil ks B⟩
      clear hbs hnew hN
      refine ⟨_, rfl, _, ks.length, rfl, .inl ⟨_, hS.seq hK, by simp⟩, (ks.length : Int), rfl, by omega, by omega, ?_⟩
      clear hS
      refine for_range (n := (ks.length : Int).toNat) (fun i σ H3 => ∃ x6 x7 x8 x9 x10 bits sums, σ = [some (.ref a), some (.ref b), some (.int B), some (.int bits), some (.int sums), some (.ref p), x6, x7, x8, x9, x10] ∧ NS H p ks B H3) ⟨_, _, _, _, _, _, _, rfl, hNS⟩ (fun i σ H3 hi pv => ?_) (fun σ H3 pv => ?_)
      · obtain ⟨x6, x7, x8, x9, x10, bits, sums, rfl, hNS⟩ := pv
        have hi' : i < ks.length := by omega
        simp only [Int.zero_add]
        obtain ⟨_, _, hS, _⟩ := id hNS
        refine ⟨_, rfl, _, _, rfl, rfl, _, rfl, _, ks.length, rfl, .inl ⟨_, hS.seq hK, by simp⟩, _, _, rfl, ⟨by omega, by omega, by omega, by omega⟩, ?_⟩
        clear hS
        refine for_range (n := ((ks.length : Int) - ((i : Int) + 1)).toNat) (fun j σ H3 => ∃ x8 x9 x10 bits sums, σ = [some (.ref a), some (.ref b), some (.int B), some (.int bits), some (.int sums), some (.ref p), x6, some (.int i), x8, x9, x10] ∧ NS H p ks B H3) ⟨_, _, _, _, _, rfl, hNS⟩ (fun j σ H3 hj pv => ?_) (fun σ H3 pv => ?_)
        · obtain ⟨x8, x9, x10, bits, sums, rfl, hNS⟩ := pv
          obtain ⟨bs, f, hS, hN, hbs, hnew, hg⟩ := hNS
          generalize hjj : (i : Int) + 1 + (j : Int) = jj
          have hj1 : (i : Int) < jj := by omega
          have hj2 : jj < ks.length := by omega
          refine ⟨_, rfl, _, rfl, (by show 2 ≤ sizeLine; decide), fun q1 hq1 => ?_⟩
          have S1 := hS.trans (Same.updN (o := .lst [.int bits, .int sums]) hq1)
          refine ⟨_, rfl, a, ns, 0, rfl, by decide, S1.seq hA, _, _, rfl, rfl, ⟨by decide, by decide⟩, _, _, rfl, rfl, (by show (0 : Int) < 2; decide), rfl, _, rfl, ?_⟩
          refine ifJ (R := fun σ H4 => ∃ q d0 d1 x10, σ = [some (.ref a), some (.ref b), some (.int B), some (.int bits), some (.int sums), some (.ref p), x6, some (.int i), some (.int jj), some (.ref q), x10] ∧ Same H3 H4 ∧ H4 q = some (.lst [.int d0, .int d1])) (fun σ H4 hR => ?_) (fun _ hR => ?_) (fun _ => ⟨q1, bits, sums, x10, rfl, Same.updN hq1, upd_same⟩)
          · obtain ⟨q2, d0, d1, x10', rfl, S2, hq2⟩ := hR
            have S3 := hS.trans S2
            have hN2 := hN.same S2
            refine ⟨_, rfl, _, _, _, _, rfl, rfl, SqL.of hq2, atI0, _, _, rfl, rfl, (by show (0 : Int) < 2; decide), rfl, _, rfl, ?_⟩
            refine ifJ (R := fun σ H5 => σ = [some (.ref a), some (.ref b), some (.int B), some (.int bits), some (.int sums), some (.ref p), x6, some (.int i), some (.int jj), some (.ref q2), x10'] ∧ NS H p ks B H5) (fun σ H5 hR => ?_) (fun _ hR => ?_) (fun _ => ⟨rfl, bs, f, S3, hN2, hbs, hnew, hg⟩)
            · obtain ⟨rfl, hNS⟩ := hR
              exact ⟨_, rfl, _, _, rfl, rfl, ⟨by decide, by decide⟩, _, rfl, _, rfl, _, _, rfl, rfl, ⟨hB0, hB1⟩, _, _, _, _, _, rfl, hNS⟩
            · obtain ⟨x, hx1, hx2, hx3⟩ := atI_ix (g := V.str) (l := ks) (i := (i : Int)) (by omega) (by omega)
              obtain ⟨y, hy1, hy2, hy3⟩ := atI_ix (g := V.str) (l := ks) (i := jj) (by omega) hj2
              have hxy : x ≠ y := by
                intro e
                obtain ⟨h1, e1⟩ := List.getElem?_eq_some_iff.mp hx2
                obtain ⟨h2, e2⟩ := List.getElem?_eq_some_iff.mp hy2
                exact List.pairwise_iff_getElem.mp hnd _ _ h1 h2 (by omega) (by rw [e1, e2, e])
              have hK2 := S3.seq hK
              obtain ⟨b1, hb1⟩ := addrOf_some (bs := bs) (x := x) (by rw [hbs]; exact hx1)
              obtain ⟨b2, hb2⟩ := addrOf_some (bs := bs) (x := y) (by rw [hbs]; exact hy1)
              have v1 := Int.emod_nonneg d1 (show B ≠ 0 by omega)
              have v2 := Int.emod_lt_of_pos d1 hB0
              refine ⟨_, rfl, _, _, _, _, rfl, rfl, SqL.of hq2, atI1, _, rfl, _, _, rfl, rfl, hB0, _, _, rfl, rfl, _, rfl, _, rfl, _, rfl, _, _, _, _, rfl, rfl, hK2, hx3, p, _, rfl, hN2.r.dget hb1, _, rfl, _, rfl, _, _, _, _, rfl, rfl, hK2, hy3, ?_⟩
              obtain ⟨p1, p2⟩ := hN2.put hb1 (1 + d1 % B) y (row_len hg hx1 (by omega))
              refine ⟨b1, _, rfl, p1, ?_⟩
              have S4 := Same.netput (o := .dK (encI (put (f x) y (1 + d1 % B)))) S3 hnew hb1
              have hq3 : (upd H4 b1 (.dK (encI (put (f x) y (1 + d1 % B))))) q2 = some (.lst [.int d0, .int d1]) := by
                rw [upd_ne (ne_of hq2 (hN2.inn _ (addrOf_mem hb1)) (by intro z; cases z))]; exact hq2
              have hK3 := S4.seq hK
              refine ⟨_, rfl, _, _, _, _, rfl, rfl, SqL.of hq3, atI1, _, rfl, _, _, rfl, rfl, hB0, _, _, rfl, rfl, _, rfl, _, rfl, _, rfl, _, _, _, _, rfl, rfl, hK3, hy3, p, _, rfl, p2.r.dget hb2, _, rfl, _, rfl, _, _, _, _, rfl, rfl, hK3, hx3, ?_⟩
              have hl2 : (putR f x y (1 + d1 % B) y).length < sizeLine := by rw [putR_ne (Ne.symm hxy)]; exact row_len hg hy1 (by omega)
              obtain ⟨p3, p4⟩ := p2.put hb2 (1 + d1 % B) x hl2
              refine ⟨b2, _, rfl, p3, hR _ _ ⟨rfl, bs, _, Same.netput S4 hnew hb2, p4, hbs, hnew, hg.put hx1 hy1 hxy (by omega) (by omega)⟩⟩
          · refine ⟨_, rfl, a, ns, 2, rfl, by decide, S1.seq hA, _, rfl, _, _, rfl, rfl, .inl ⟨by decide, by decide⟩, _, rfl, _, _, rfl, rfl, _, _, rfl, by omega, by omega, ?_⟩
            generalize ns.getD (2 : Int).toNat 0 = cc
            have f1 := mixF_lo cc (20 * i + jj)
            have f2 := mixF_hi cc (20 * i + jj)
            generalize mixF cc (20 * i + jj) = fi at f1 f2 ⊢
            have g1 := Int.emod_nonneg cc (show (3 : Int) ≠ 0 by decide)
            have g2 := Int.emod_lt_of_pos cc (show (0 : Int) < 3 by decide)
            refine ⟨_, rfl, _, _, rfl, rfl, ⟨by decide, by decide⟩, _, _, rfl, rfl, (by show (0 : Int) < 4; decide), _, rfl, a, ns, 2, rfl, by decide, S1.seq hA, _, _, rfl, rfl, (by show (0 : Int) < 3; decide), _, _, rfl, rfl, ?_⟩
            exact ⟨_, _, rfl, rfl, ⟨by omega, by omega⟩, _, rfl, _, rfl, _, _, rfl, rfl, .inl ⟨by omega, by omega⟩, (by show 2 ≤ sizeLine; decide), fun q2 hq2 => hR _ _ ⟨q2, _, _, _, rfl, (Same.updN hq1).trans (Same.updN hq2), upd_same⟩⟩
        · obtain ⟨x8, x9, x10, bits, sums, rfl, hNS⟩ := pv
          exact ⟨_, _, _, _, _, _, _, rfl, hNS⟩
      · obtain ⟨x6, x7, x8, x9, x10, bits, sums, rfl, hNS⟩ := pv
        exact ⟨_, rfl, q p H3 hNS⟩
end
end K06

set_option Elab.async false
set_option linter.all false
set_option maxRecDepth 100000
set_option maxHeartbeats 4000000
namespace K06
open PySem L2 PySem.Spec PyProof.Rows
section
variable {P : Program} {w : World} {K : PySem.W.Frag} {mg : Str → Option Value} {base : Heap} {t : Adr}
def sp_chkp (K : PySem.W.Frag) : Sp := fun vs H Q _ => ∃ (a : Addr) (ss : List Str), vs = [.ref a] ∧ SqL K H a (ss.map V.str) ∧ ss.Nodup ∧ (∀ s ∈ ss, isNm s) ∧ ss.length ≤ 12 ∧ ∀ H', Same H H' → Q .non H'
theorem ok_check_places (T : Txt K mg t) : FnOk P w K mg base CX0 3 t.check_places t.fd_check_places ["places"] (sp_chkp K) := by
  refine T.f_check_places.fn.ok sc_check_places (fun vs H Q E h => ?_) (fun cdv A outer s H vs Q E hr h => ?_)
  · obtain ⟨a, ss, rfl, _⟩ := h; rfl
  · obtain ⟨a, ss, rfl, hA, hnd, hnm, hlen, q⟩ := h
    have hu := hu_of hr
    refine ⟨_, (pss_cons (ps_set (i := 1) sc_check_places.nd rfl (Or.inl rfl) pe_dnewK)
      (pss_cons (ps_for PassesOwn.never rfl (pi_list (pv 0)) (pg_name (i := 2) sc_check_places.nd rfl (Or.inl rfl))
        (pss_cons (ps_if (pt_not (pt_val (pe_call (ok_is_name T) (hr.mono (by decide)) rfl T.f_is_name.mg T.f_is_name.kp T.f_is_name.bd .nil pass0 (pa_cons (pv 2) pa_nil))))
        (pss_one ps_never)
        pss_nil)
      (pss_cons (ps_if (pt_cmp (pc_din hu (pv 2) (pv 1)))
        (pss_one ps_never)
        pss_nil)
      (pss_one (ps_dput hu (pv 1) (pv 2) pe_bl rfl)))))
      (pss_one (ps_if (pt_cmpR op_gt (pe_callB call_len (by rfl) T.b_len boot_len' (pa_cons (pv 0) pa_nil)) (pe_glob (v := .int 12) rfl T.c_MOST_PLACES ⟨_, rfl⟩) (nomark _))
        (pss_one ps_never)
        pss_nil)))), ?_⟩
    intro p hp
    refine ⟨_, rfl, a, rfl, ⟨_, (Same.updN hp).seq hA⟩, for_list (xs := ss.map V.str) (fun i σ H2 => ∃ x2, σ = [some (.ref a), some (.ref p), x2] ∧ Same H H2 ∧ H2 p = some (.dK (seenK (ss.take i)))) ?_ (fun i σ H2 hi pv => ?_) (fun i x σ H2 hx pv => ?_) (fun σ H2 pv => ?_)⟩
    · exact ⟨_, rfl, Same.updN hp, upd_same⟩
    · obtain ⟨_, rfl, hS, _⟩ := pv
      exact hS.seq hA
    · obtain ⟨x2, rfl, hS, hP⟩ := pv
      rw [List.getElem?_map] at hx
      cases hk : ss[i]? with
      | none => rw [hk] at hx; cases hx
      | some k =>
      rw [hk] at hx
      cases hx
      have hkm := hnm k (List.mem_of_getElem? hk)
      refine ⟨_, rfl, _, .str k, rfl, .str k, (fun z e => by cases e; exact szl (by have := hkm.2.1; omega)), fun H3 hS3 => ⟨_, rfl, ?_⟩⟩
      rw [nameD_of hkm]
      have hno := seen_none (nodup_take hnd hk)
      refine iteF ⟨_, rfl, _, rfl, p, _, rfl, DGet.k (k := Sum.inr k) (hS3 _ _ hP), _, rfl, ?_⟩
      rw [hno]
      refine iteF ⟨_, rfl, _, rfl, p, _, rfl, DPut.k (k := Sum.inr k) (hS3 _ _ hP) ?_, _, rfl, ?_, ?_⟩
      · unfold seenK; rw [List.length_map, List.length_take]; exact szl (by omega)
      · exact (hS.trans hS3).upd hp
      · rw [upd_same, putK_new _ hno, List.take_add_one, hk]
        unfold seenK; rw [List.map_append]; rfl
    · obtain ⟨x2, rfl, hS, hP⟩ := pv
      exact ⟨_, rfl, _, ss.length, rfl, .inl ⟨_, hS.seq hA, by simp⟩, _, _, rfl, rfl, _, rfl, iteD (fun h => absurd h (by omega)) (fun _ => q H2 hS)⟩
def sp_chk2 (K : PySem.W.Frag) : Sp := fun vs H Q _ => ∃ (a : Addr) (bs : Outer) (g : Str → L2.Row) (x y : Str), vs = [.ref a, .str x, .str y] ∧ NetR H a bs g ∧ x ∈ bs.map (·.1) ∧ y ∈ bs.map (·.1) ∧ x ≠ y ∧ ∀ H', Same H H' → Q .non H'
theorem ok_check_two (T : Txt K mg t) : FnOk P w K mg base CX0 2 t.check_two t.fd_check_two ["net", "one", "other"] (sp_chk2 K) := by
  refine T.f_check_two.fn.ok sc_check_two (fun vs H Q E h => ?_) (fun cdv A outer s H vs Q E hr h => ?_)
  · obtain ⟨a, bs, g, x, y, rfl, _⟩ := h; rfl
  · obtain ⟨a, bs, g, x, y, rfl, hN, hx, hy, hne, q⟩ := h
    have hu := hu_of hr
    obtain ⟨b, hb⟩ := addrOf_some hx
    obtain ⟨b2, hb2⟩ := addrOf_some hy
    refine ⟨_, (pss_cons (ps_for PassesOwn.never rfl (pi_tup (pe_tup (pa_cons (pv 1) (pa_cons (pv 2) pa_nil)))) (pg_name (i := 3) sc_check_two.nd rfl (Or.inl rfl))
        (pss_one (ps_if (pt_not (pt_val (pe_call (ok_has_place T) (hr.mono (by decide)) rfl T.f_has_place.mg T.f_has_place.kp T.f_has_place.bd .nil pass0 (pa_cons (pv 0) (pa_cons (pv 3) pa_nil)))))
        (pss_one ps_never)
        pss_nil)))
      (pss_one (ps_if (pt_cmpR op_eq (pv 1) (pv 2) (nomark _))
        (pss_one ps_never)
        pss_nil))), ?_⟩
    refine ⟨_, rfl, _, rfl, (by show 2 ≤ sizeLine; decide), fun r hr' => ⟨r, rfl, ⟨_, SqT.of upd_same⟩, ?_⟩⟩
    have S1 := Same.updN (o := .tup [.str x, .str y]) hr'
    have hN1 := hN.sm S1.sm
    refine for_tup (xs := [.str x, .str y]) (fun i σ H2 => ∃ x4, σ = [some (.ref a), some (.str x), some (.str y), x4] ∧ H2 = upd H r (.tup [.str x, .str y])) ⟨_, rfl, rfl⟩ (fun i σ H2 hi pv => ?_) (fun i z σ H2 hz pv => ?_) (fun σ H2 pv => ?_)
    · obtain ⟨_, rfl, rfl⟩ := pv
      exact SqT.of upd_same
    · obtain ⟨x4, rfl, rfl⟩ := pv
      have : ∃ u bu, z = .str u ∧ addrOf bs u = some bu := by
        match i, hz with
        | 0, hz => cases hz; exact ⟨x, b, rfl, hb⟩
        | 1, hz => cases hz; exact ⟨y, b2, rfl, hb2⟩
        | n + 2, hz => simp at hz
      obtain ⟨u, bu, rfl, hbu⟩ := this
      refine ⟨_, rfl, _, rfl, a, _, _, .str u, rfl, hN1.out, .str u, _, rfl, ?_⟩
      rw [show hasD (encO bs) (.str u) = true by show (valV (encO bs) (Sum.inr u)).isSome = true; rw [valV_encO, hbu]; rfl]
      exact iteF ⟨_, rfl, rfl⟩
    · obtain ⟨x4, rfl, rfl⟩ := pv
      exact ⟨_, rfl, _, rfl, rfl, _, rfl, iteD (fun e => absurd e (by intro z; injection z with z; exact hne z)) (fun _ => q _ S1)⟩
def sp_chkl (K : PySem.W.Frag) : Sp := fun vs H Q _ => ∃ (a : Addr) (bs : Outer) (g : Str → L2.Row) (x y : Str) (v : Int), vs = [.ref a, .str x, .str y, .int v] ∧ NetR H a bs g ∧ x ∈ bs.map (·.1) ∧ y ∈ bs.map (·.1) ∧ x ≠ y ∧ look (g x) y = none ∧ 1 ≤ v ∧ v ≤ 1000000000 ∧ ∀ H', Same H H' → Q .non H'
theorem ok_check_line (T : Txt K mg t) : FnOk P w K mg base CX0 3 t.check_line t.fd_check_line ["net", "one", "other", "strength"] (sp_chkl K) := by
  refine T.f_check_line.fn.ok sc_check_line (fun vs H Q E h => ?_) (fun cdv A outer s H vs Q E hr h => ?_)
  · obtain ⟨a, bs, g, x, y, v, rfl, _⟩ := h; rfl
  · obtain ⟨a, bs, g, x, y, v, rfl, hN, hx, hy, hne, hno, hv1, hv2, q⟩ := h
    have hu := hu_of hr
    obtain ⟨b, hb⟩ := addrOf_some hx
    refine ⟨_, (pss_cons (ps_expr (pe_call (ok_check_two T) (hr.mono (by decide)) rfl T.f_check_two.mg T.f_check_two.kp T.f_check_two.bd .nil pass0 (pa_cons (pv 0) (pa_cons (pv 1) (pa_cons (pv 2) pa_nil)))))
      (pss_cons (ps_if (pt_cmp (pc_din hu (pv 2) (pe_dget hu (pv 0) (pv 1) (fun _ _ => rfl))))
        (pss_one ps_never)
        pss_nil)
      (pss_one (ps_if (pt_not (pt_val (pe_call (ok_is_strength T) (hr.mono (by decide)) rfl T.f_is_strength.mg T.f_is_strength.kp T.f_is_strength.bd .nil pass0 (pa_cons (pv 3) pa_nil))))
        (pss_one ps_never)
        pss_nil)))), ?_⟩
    refine ⟨_, rfl, _, rfl, _, rfl, a, bs, g, x, y, rfl, hN, hx, hy, hne, fun H1 S1 => ?_⟩
    have hN1 := hN.sm S1.sm
    have hg := hN1.rget (y := y) hb
    rw [hno] at hg
    refine ⟨_, rfl, _, rfl, _, rfl, a, _, rfl, hN1.dget hb, b, _, rfl, hg, _, rfl, iteF ?_⟩
    refine ⟨_, rfl, _, .int v, rfl, .int v, _, rfl, ?_⟩
    rw [show strengthD (.int v) = true by simp [strengthD, hv1, hv2]]
    exact iteF (q _ S1)
/-! ### the net without lines -/
def sp_netof (K : PySem.W.Frag) : Sp := fun vs H Q _ => ∃ (a b : Addr) (ss : List Str), vs = [.ref a, .ref b] ∧ SqL K H a (ss.map V.str) ∧ SqL K H b [] ∧ ss.Nodup ∧ ss.length ≤ 12 ∧ ∀ p H', NS0 H p (sortS ss) (fun _ => []) H' → Q (.ref p) H'
theorem ok_net_of (T : Txt K mg t) : FnOk P w K mg base CX0 2 t.net_of t.fd_net_of ["places", "lines"] (sp_netof K) := by
  refine T.f_net_of.fn.ok sc_net_of (fun vs H Q E h => ?_) (fun cdv A outer s H vs Q E hr h => ?_)
  · obtain ⟨a, b, ss, rfl, _⟩ := h; rfl
  · obtain ⟨a, b, ss, rfl, hA, hB, hnd, hlen, q⟩ := h
    have hu := hu_of hr
    refine ⟨_, (pss_cons (ps_set (i := 2) sc_net_of.nd rfl (Or.inl rfl) pe_dnewK)
      (pss_cons (ps_for PassesOwn.never rfl (pi_list (pe_callB call_sortedL (by rfl) T.b_sorted boot_sorted (pa_cons (pv 0) pa_nil))) (pg_name (i := 3) sc_net_of.nd rfl (Or.inl rfl))
        (pss_one (ps_dput hu (pv 2) (pv 3) pe_dnewK rfl)))
      (pss_cons (ps_for PassesOwn.never rfl (pi_list (pv 1)) (pg_tup rfl (pgs_cons (pg_name (i := 4) sc_net_of.nd rfl (Or.inl rfl)) (pgs_cons (pg_name (i := 5) sc_net_of.nd rfl (Or.inl rfl)) (pgs_cons (pg_name (i := 6) sc_net_of.nd rfl (Or.inl rfl)) pgs_nil))))
        (pss_one (ps_expr (pe_call (ok_join_line T) (hr.mono (by decide)) rfl T.f_join_line.mg T.f_join_line.kp T.f_join_line.bd .nil pass0 (pa_cons (pv 2) (pa_cons (pv 4) (pa_cons (pv 5) (pa_cons (pv 6) pa_nil))))))))
      (pss_one (ps_ret (pv 2)))))), ?_⟩
    intro p hp
    have S0 := Same.updN (o := .dK []) hp
    refine ⟨_, rfl, a, ss, rfl, S0.seq hA, by omega, fun r hr' => ⟨r, rfl, ⟨_, SqL.of upd_same⟩, ?_⟩⟩
    have S1 := S0.trans (Same.updN (o := .lst ((sortS ss).map V.str)) hr')
    have pr : p ≠ r := fun e => by rw [← e, upd_same] at hr'; cases hr'
    have hr0 := S0.free hr'
    refine for_list (xs := (sortS ss).map V.str) (fun i σ H2 => ∃ x3 bs, σ = [some (.ref a), some (.ref b), some (.ref p), x3, none, none, none] ∧ Same H H2 ∧ H2 r = some (.lst ((sortS ss).map V.str)) ∧ NetAt H2 p bs (fun _ => []) ∧ bs.map (·.1) = (sortS ss).take i ∧ New H p bs) ?_ (fun i σ H2 hi pv => ?_) (fun i x σ H2 hx pv => ?_) (fun σ H2 pv => ?_)
    · refine ⟨_, [], rfl, S1, upd_same, ⟨by rw [upd_ne pr, upd_same]; rfl, fun _ h => absurd h (by simp), List.nodup_nil, by simp⟩, rfl, hp, fun _ h => absurd h (by simp)⟩
    · obtain ⟨_, _, rfl, _, hR, _⟩ := pv
      exact SqL.of hR
    · obtain ⟨x3, bs, rfl, hS, hR, hN, hbs, hnew⟩ := pv
      rw [List.getElem?_map] at hx
      cases hk : (sortS ss)[i]? with
      | none => rw [hk] at hx; cases hx
      | some k =>
      rw [hk] at hx
      cases hx
      have hfresh : k ∉ bs.map (·.1) := by rw [hbs]; exact nodup_take (sortS_nodup hnd) hk
      have hbl : bs.length ≤ 12 := by
        have := congrArg List.length hbs
        rw [List.length_map, List.length_take, sortS_len] at this
        omega
      intro r2 hr2
      obtain ⟨d1, d2⟩ := hN.add (x := k) hfresh hr2 (szl (by omega)) rfl
      refine ⟨_, rfl, _, rfl, p, _, rfl, d1, _, bs ++ [(k, r2)], rfl, ?_, ?_, d2, ?_, hnew.1, fun z hz => ?_⟩
      · exact (hS.trans (Same.updN hr2)).upd hp
      · rw [upd_ne (Ne.symm pr), upd_ne (ne_of_none hR hr2)]; exact hR
      · rw [List.map_append, hbs, List.take_add_one, hk]; rfl
      · rcases List.mem_append.mp hz with c | c
        · exact hnew.2 z c
        · rw [List.mem_singleton.mp c]; exact hS.free hr2
    · obtain ⟨x3, bs, rfl, hS, hR, hN, hbs, hnew⟩ := pv
      rw [List.length_map, List.take_of_length_le (Nat.le_refl _)] at hbs
      refine ⟨_, rfl, b, rfl, ⟨_, hS.seq hB⟩, for_list (xs := []) (fun i σ H3 => σ = [some (.ref a), some (.ref b), some (.ref p), x3, none, none, none] ∧ H3 = H2) ⟨rfl, rfl⟩ (fun i σ H3 _ pv => ?_) (fun i x σ H3 hx pv => absurd hx (by simp)) (fun σ H3 pv => ?_)⟩
      · obtain ⟨rfl, rfl⟩ := pv; exact hS.seq hB
      · obtain ⟨rfl, rfl⟩ := pv
        exact ⟨_, rfl, q p H3 ⟨bs, hS, hN, hbs, hnew⟩⟩
/-! ### the net made -/
def sp_made_net (K : PySem.W.Frag) : Sp := fun vs H Q _ => ∃ (a b : Addr) (ss : List Str) (xs : List V) (ls : List Ln), vs = [.ref a, .ref b] ∧ SqL K H a (ss.map V.str) ∧ SqL K H b xs ∧ Reps K H xs (ls.map lineD) ∧ ss.Nodup ∧ (∀ s ∈ ss, isNm s) ∧ ss.length ≤ 12 ∧ Apart ls ∧
  (∀ l ∈ ls, l.1 ∈ ss ∧ l.2.1 ∈ ss ∧ l.1 ≠ l.2.1 ∧ 1 ≤ l.2.2 ∧ l.2.2 ≤ 1000000000) ∧ ∀ p H' g, NS0 H p (sortS ss) g H' → MNet ss ls g → Q (.ref p) H'
theorem ok_made_net (T : Txt K mg t) : FnOk P w K mg base CX0 4 t.made_net t.fd_made_net ["places", "lines"] (sp_made_net K) := by
  refine T.f_made_net.fn.ok sc_made_net (fun vs H Q E h => ?_) (fun cdv A outer s H vs Q E hr h => ?_)
  · obtain ⟨a, b, ss, xs, ls, rfl, _⟩ := h; rfl
  · obtain ⟨a, b, ss, xs, ls, rfl, hA, hB, hR, hnd, hnm, hlen, hap, hls, q⟩ := h
    refine ⟨_, (pss_cons (ps_expr (pe_call (ok_check_places T) (hr.mono (by decide)) rfl T.f_check_places.mg T.f_check_places.kp T.f_check_places.bd .nil pass0 (pa_cons (pv 0) pa_nil)))
      (pss_cons (ps_set (i := 2) sc_made_net.nd rfl (Or.inl rfl) (pe_call (ok_net_of T) (hr.mono (by decide)) rfl T.f_net_of.mg T.f_net_of.kp T.f_net_of.bd .nil pass0 (pa_cons (pv 0) (pa_cons (pe_lst pa_nil) pa_nil))))
      (pss_cons (ps_for PassesOwn.never rfl (pi_list (pv 1)) (pg_tup rfl (pgs_cons (pg_name (i := 3) sc_made_net.nd rfl (Or.inl rfl)) (pgs_cons (pg_name (i := 4) sc_made_net.nd rfl (Or.inl rfl)) (pgs_cons (pg_name (i := 5) sc_made_net.nd rfl (Or.inl rfl)) pgs_nil))))
        (pss_cons (ps_expr (pe_call (ok_check_line T) (hr.mono (by decide)) rfl T.f_check_line.mg T.f_check_line.kp T.f_check_line.bd .nil pass0 (pa_cons (pv 2) (pa_cons (pv 3) (pa_cons (pv 4) (pa_cons (pv 5) pa_nil))))))
      (pss_one (ps_expr (pe_call (ok_join_line T) (hr.mono (by decide)) rfl T.f_join_line.mg T.f_join_line.kp T.f_join_line.bd .nil pass0 (pa_cons (pv 2) (pa_cons (pv 3) (pa_cons (pv 4) (pa_cons (pv 5) pa_nil)))))))))
      (pss_one (ps_ret (pv 2)))))), ?_⟩
    refine ⟨_, rfl, a, ss, rfl, hA, hnd, hnm, hlen, fun H1 S1 => ?_⟩
    refine ⟨_, rfl, (by decide), fun e he => ⟨a, e, ss, rfl, ?_, SqL.of upd_same, hnd, hlen, fun p H2 hNS => ?_⟩⟩
    · exact (Same.updN he).seq (S1.seq hA)
    obtain ⟨bs, S2, hN, hbs, hnew⟩ := hNS
    have S3 : Same H H2 := (S1.trans (Same.updN he)).trans S2
    have hnew : New H p bs := hnew.same (S1.trans (Same.updN he))
    refine ⟨_, rfl, b, rfl, ⟨_, S3.seq hB⟩, for_list (xs := xs) (fun i σ H3 => ∃ x3 x4 x5 g, σ = [some (.ref a), some (.ref b), some (.ref p), x3, x4, x5] ∧ Same H H3 ∧ NetAt H3 p bs g ∧ MNet ss (ls.take i) g) ⟨_, _, _, _, rfl, S3, hN, MNet.nil ss⟩ (fun i σ H3 hi pv => ?_) (fun i x σ H3 hx pv => ?_) (fun σ H3 pv => ?_)⟩
    · obtain ⟨_, _, _, _, rfl, hS, _⟩ := pv
      exact hS.seq hB
    · obtain ⟨x3, x4, x5, g, rfl, hS, hN3, hM⟩ := pv
      obtain ⟨l, tt, hl, rfl, hT⟩ := (hR.sm hS.sm).line hx
      obtain ⟨l1, l2, l3, l4, l5⟩ := hls l (List.mem_of_getElem? hl)
      have m1 : l.1 ∈ bs.map (·.1) := by rw [hbs]; exact mem_sortS.mpr l1
      have m2 : l.2.1 ∈ bs.map (·.1) := by rw [hbs]; exact mem_sortS.mpr l2
      obtain ⟨b1, hb1⟩ := addrOf_some m1
      obtain ⟨b2, hb2⟩ := addrOf_some m2
      have hno := hM.none hap hl l1
      have rl : ∀ x, x ∈ ss → (g x).length < sizeLine := fun x hx => by
        refine szl ?_
        have : ((g x).map (·.1)).length ≤ ss.length := nd_len (hM.nd x hx) fun y hy => by
          obtain ⟨v, hv⟩ := look_some_iff.mpr hy
          rcases (hM.jn x y v hx).mp hv with c | c
          · exact (hls _ (List.mem_of_mem_take c)).2.1
          · exact (hls _ (List.mem_of_mem_take c)).1
        rw [List.length_map] at this
        omega
      refine ⟨tt, _, rfl, hT, rfl, _, _, rfl, _, _, rfl, _, _, rfl, rfl, ?_⟩
      refine ⟨_, rfl, _, rfl, _, rfl, _, rfl, p, bs, g, l.1, l.2.1, l.2.2, rfl, hN3.r, m1, m2, l3, hno, l4, l5, fun H4 hS4 => ?_⟩
      refine ⟨_, rfl, _, rfl, _, rfl, _, rfl, p, bs, g, l.1, l.2.1, b1, b2, l.2.2, rfl, hN3.same hS4, hb1, hb2, l3, rl _ l1, rl _ l2, fun H5 hN5 hk => ?_⟩
      refine ⟨_, _, _, _, rfl, fun c o hc => ?_, hN5, ?_⟩
      · rw [hk c (ne_of_none hc (hnew.2 _ (addrOf_mem hb1))) (ne_of_none hc (hnew.2 _ (addrOf_mem hb2)))]
        exact hS4 _ _ (hS _ _ hc)
      · rw [hno, show (Option.none : Option Int).getD 0 + l.2.2 = l.2.2 by simp, List.take_add_one, hl]
        exact hM.put l1 l2 l3 hno
    · obtain ⟨x3, x4, x5, g, rfl, hS, hN3, hM⟩ := pv
      refine ⟨_, rfl, q p H3 g ⟨bs, hS, hN3, hbs, hnew⟩ ?_⟩
      rw [hR.length, List.length_map, List.take_of_length_le (Nat.le_refl _)] at hM
      exact hM
/-! ### whole numbers all -/
def sp_numbers : Sp := fun vs H Q _ => ∃ (a : Addr) (bs : Outer) (f : Str → L2.Row), vs = [.ref a] ∧ NetR H a bs f ∧ ∀ H', Same H H' → Q (.bl true) H'
theorem ok_l_numbers (T : Txt K mg t) : FnOk P w K mg base CX0 1 t.l_numbers t.fd_l_numbers ["_law_net_here"] sp_numbers := by
  refine T.f_l_numbers.fn.ok sc_l_numbers (fun vs H Q E h => ?_) (fun cdv A outer s H vs Q E hr h => ?_)
  · obtain ⟨a, bs, f, rfl, _⟩ := h; rfl
  · obtain ⟨a, bs, f, rfl, hN, q⟩ := h
    have hu := hu_of hr
    refine ⟨_, (pss_cons (ps_forD PassesOwn.never rfl (pv 0) (pg_name (i := 1) sc_l_numbers.nd rfl (Or.inl rfl))
        (pss_one (ps_forV PassesOwn.never rfl (pe_dget hu (pv 0) (pv 1) (fun _ _ => rfl)) (pg_name (i := 2) sc_l_numbers.nd rfl (Or.inl rfl))
        (pss_one (ps_if (PW.pt (pw_or (pt_not (pt_val (pe_callB call_isi (by rfl) T.b_isinstance boot_isinstance' (pa_cons (pv 2) (pa_cons (pe_bltn (v := .ty "int") rfl T.b_int boot_ty_int rfl) pa_nil))))) (pw_or1 (pt_val (pe_callB call_isi (by rfl) T.b_isinstance boot_isinstance' (pa_cons (pv 2) (pa_cons (pe_bltn (v := .ty "bool") rfl T.b_bool boot_ty_bool rfl) pa_nil)))))))
        (pss_one (ps_ret pe_bl))
        pss_nil)))))
      (pss_one (ps_ret pe_bl))), ?_⟩
    refine ⟨_, rfl, a, _, rfl, hN.out, fun o H2 fz => forD hN.out fz (fun i σ H => ∃ x1 x2, σ = [some (.ref a), x1, x2]) ⟨_, _, rfl⟩ (fun _ _ _ _ _ h => h) (fun i k v σ H3 hk fs pv => ?_) (fun σ H3 hS pv => q H3 hS)⟩
    obtain ⟨x1, x2, rfl⟩ := pv
    obtain ⟨pp, hpp, rfl, rfl⟩ := encO_get hk
    have hN3 := hN.sm (fs.sm hN.out)
    have had := mem_addrOf hN.ks (x := pp.1) (b := pp.2) hpp
    have hrow := hN3.inn pp hpp
    refine ⟨_, rfl, _, rfl, a, _, rfl, hN3.dget had, pp.2, _, rfl, hrow, fun o2 H4 fz2 => forV hrow fz2 (fun i σ H => ∃ x2, σ = [some (.ref a), some (.str pp.1), x2]) ⟨_, rfl⟩ (fun _ _ _ _ _ h => h) (fun j k v σ H5 hk2 fs2 pv => ?_) (fun σ H5 hS pv => ?_)⟩
    · obtain ⟨x2, rfl⟩ := pv
      obtain ⟨e, he, rfl, rfl⟩ := encI_get hk2
      exact ⟨_, rfl, _, .int e.2, "int", rfl, .int _, rfl, _, rfl, iteF ⟨_, rfl, _, .int e.2, "bool", rfl, .int _, rfl, _, rfl, iteF ⟨fs2, _, rfl⟩⟩⟩
    · obtain ⟨x2, rfl⟩ := pv
      exact ⟨fs.same hS, _, _, rfl⟩
end
end K06

set_option Elab.async false
set_option linter.all false
set_option maxRecDepth 100000
set_option maxHeartbeats 4000000
namespace K06
open PySem L2 PySem.Spec PyProof.Rows
section
variable {P : Program} {w : World} {K : PySem.W.Frag} {mg : Str → Option Value} {base : Heap} {t : Adr}
/-! ### numbers written -/
def sp_wr (K : PySem.W.Frag) : Sp := fun vs H Q _ => ∃ v d, vs = [v] ∧ Rep K H v d ∧ (∀ x, d = .str x → x.length < sizeLine) ∧ ∀ H', Same H H' → Q (.bl (wrD d)) H'
theorem ok_is_written_number (T : Txt K mg t) : FnOk P w K mg base CX0 2 t.is_written_number t.fd_is_written_number ["thing"] (sp_wr K) := by
  refine T.f_is_written_number.fn.ok sc_is_written_number (fun vs H Q E h => ?_) (fun cdv A outer s H vs Q E hr h => ?_)
  · obtain ⟨v, d, rfl, _⟩ := h; rfl
  · obtain ⟨v, d, rfl, hd, hz, q⟩ := h
    refine ⟨_, (pss_cons (ps_if (pt_not (pt_val (pe_callB call_isi (by rfl) T.b_isinstance boot_isinstance' (pa_cons (pv 0) (pa_cons (pe_bltn (v := .ty "str") rfl T.b_str boot_ty_str rfl) pa_nil)))))
        (pss_one (ps_ret pe_bl))
        pss_nil)
      (pss_cons (ps_if (PW.pt (pw_or (pt_not (pt_chain op_le op_le pe_int (pe_callB call_len (by rfl) T.b_len boot_len' (pa_cons (pv 0) pa_nil)) (pe_glob (v := .int 10) rfl T.c_LONGEST_NUMBER ⟨_, rfl⟩))) (pw_or1 (pt_not (pt_val (pe_call (ok_is_made_of T) (hr.mono (by decide)) rfl T.f_is_made_of.mg T.f_is_made_of.kp T.f_is_made_of.bd .nil pass0 (pa_cons (pv 0) (pa_cons (pe_glob (v := .str "0123456789") rfl T.c_FIGURES ⟨_, rfl⟩) pa_nil))))))))
        (pss_one (ps_ret pe_bl))
        pss_nil)
      (pss_one (ps_ret (pe_or (pe_cmpR op_eq (pv 0) pe_str (nomark _)) (pe_one (pe_cmpR op_ne (pe_ix ix_str (pv 0) pe_int (fun _ _ => rfl)) pe_str (nomark _)))))))), ?_⟩
    refine ⟨_, rfl, _, d, "str", rfl, hd, rfl, _, rfl, ?_⟩
    rw [isiB_str]
    cases d with
    | str x =>
      cases hd
      have hx := hz x rfl
      refine iteF ⟨_, rfl, .str x, x.length, rfl, ⟨Nat.le_of_lt hx, rfl⟩, _, _, rfl, rfl, _, rfl, ?_⟩
      refine iteD (fun h1 => ⟨_, _, rfl, rfl, _, rfl, ?_⟩) (fun h1 => ⟨_, rfl, ?_⟩)
      · by_cases h2 : (x.length : Int) ≤ 10
        · rw [decide_eq_true h2]
          refine iteF ⟨_, rfl, x, _, rfl, hx, fun H' hH => ⟨_, rfl, ?_⟩⟩
          simp only [StrLaws.found_one]
          by_cases h3 : ((cs x).all fun c => decide (c ∈ cs figS)) = true
          · rw [show ((cs x).all fun c => decide (c ∈ (Str.ofString "0123456789").cps.toList)) = true from h3]
            refine iteF ⟨_, rfl, rfl, _, rfl, ?_⟩
            have base : wrD (.str x) = (decide (x = "0") || !decide ((cs x).head? = some 48)) := by
              simp only [wrD]
              rw [h3, decide_eq_true (by omega : 1 ≤ x.length), decide_eq_true (by omega : x.length ≤ 10)]
              simp
            by_cases h4 : x = "0"
            · rw [base, decide_eq_true h4] at q
              rw [decide_eq_true (by rw [h4])]
              exact iteT (q _ hH)
            · rw [base, decide_eq_false h4, Bool.false_or] at q
              rw [decide_eq_false (fun e => h4 (by injection e))]
              obtain ⟨c, hc⟩ : ∃ c, (cs x)[0]? = some c := ⟨_, List.getElem?_eq_getElem (by rw [cs_len]; omega)⟩
              refine iteF ⟨_, rfl, _, _, c, rfl, rfl, Nat.le_of_lt hx, atI_nat hc, rfl, ?_⟩
              have : (!decide (V.str ⟨#[c]⟩ = V.str "0")) = (!decide ((cs x).head? = some 48)) := by
                rw [List.head?_eq_getElem?, hc, e48]
                congr 1
                refine decide_eq_decide.mpr ?_
                constructor
                · intro e
                  injection e with e
                  have := congrArg cs e
                  rw [cs_c1, cs_c1] at this
                  injection this with this
                  rw [this]
                · intro e
                  injection e with e
                  rw [e]
              rw [this]
              exact q _ hH
          · have h3 : ((cs x).all fun c => decide (c ∈ cs figS)) = false := by simpa using h3
            rw [show ((cs x).all fun c => decide (c ∈ (Str.ofString "0123456789").cps.toList)) = false from h3]
            have e : wrD (.str x) = false := by
              simp only [wrD]
              rw [h3]; simp
            rw [e] at q
            exact iteT (q _ hH)
        · rw [decide_eq_false h2]
          have e : wrD (.str x) = false := by
            simp only [wrD]
            rw [decide_eq_false (by omega : ¬ x.length ≤ 10)]; simp
          rw [e] at q
          exact iteT (iteT (q _ (Same.refl _)))
      · have e : wrD (.str x) = false := by
          simp only [wrD]
          rw [decide_eq_false (by omega : ¬ 1 ≤ x.length)]; simp
        rw [e] at q
        exact iteT (iteT (q _ (Same.refl _)))
    | _ => exact iteT (q _ (Same.refl _))
def sp_numof (K : PySem.W.Frag) : Sp := fun vs H Q _ => ∃ (v : Int), vs = [.str (numS v)] ∧ 1 ≤ v ∧ v ≤ 1000000000 ∧ ∀ H', Same H H' → Q (.int v) H'
theorem ok_number_of (T : Txt K mg t) : FnOk P w K mg base CX0 3 t.number_of t.fd_number_of ["text"] (sp_numof K) := by
  refine T.f_number_of.fn.ok sc_number_of (fun vs H Q E h => ?_) (fun cdv A outer s H vs Q E hr h => ?_)
  · obtain ⟨v, rfl, _⟩ := h; rfl
  · obtain ⟨v, rfl, h1, h2, q⟩ := h
    have hl := num_len (v := v) (by omega) (by omega)
    refine ⟨_, (pss_cons (ps_if (pt_not (pt_val (pe_call (ok_is_written_number T) (hr.mono (by decide)) rfl T.f_is_written_number.mg T.f_is_written_number.kp T.f_is_written_number.bd .nil pass0 (pa_cons (pv 0) pa_nil))))
        (pss_one ps_never)
        pss_nil)
      (pss_one (ps_ret (pe_callTy call_int_str (by rfl) T.b_int boot_ty_int (pa_cons (pv 0) pa_nil))))), ?_⟩
    refine ⟨_, rfl, _, .str (numS v), rfl, .str _, (fun z e => by cases e; exact szl (by omega)), fun H' hH => ⟨_, rfl, ?_⟩⟩
    rw [wr_num h1 h2]
    exact iteF ⟨_, rfl, _, v, rfl, PySem.W.KIN.num_reads (by omega) (by omega), by omega, q _ hH⟩
/-! ### a net shown -/
def sp_row (K : PySem.W.Frag) : Sp := fun vs H Q _ => ∃ (a : Addr) (bs : Outer) (f : Str → L2.Row) (x : Str), vs = [.ref a, .str x] ∧ NetR H a bs f ∧ GT (bs.map (·.1)) f ∧ x ∈ bs.map (·.1) ∧ ∀ H', Same H H' → Q (.str (rowS f x)) H'
theorem ok_shown_row (T : Txt K mg t) : FnOk P w K mg base CX0 1 t.shown_row t.fd_shown_row ["net", "place"] (sp_row K) := by
  refine T.f_shown_row.fn.ok sc_shown_row (fun vs H Q E h => ?_) (fun cdv A outer s H vs Q E hr h => ?_)
  · obtain ⟨a, bs, f, x, rfl, _⟩ := h; rfl
  · obtain ⟨a, bs, f, x, rfl, hN, hg, hx, q⟩ := h
    have hu := hu_of hr
    obtain ⟨b, hb⟩ := addrOf_some hx
    have hrl := hg.row hx
    refine ⟨_, (pss_cons (ps_set (i := 2) sc_shown_row.nd rfl (Or.inl rfl) (pe_lst pa_nil))
      (pss_cons (ps_for PassesOwn.never rfl (pi_list (pe_callB call_sortedD (by rfl) T.b_sorted boot_sorted (pa_cons (pe_dget hu (pv 0) (pv 1) (fun _ _ => rfl)) pa_nil))) (pg_name (i := 3) sc_shown_row.nd rfl (Or.inl rfl))
        (pss_one (ps_if (pt_cmpR op_lt_str (pv 1) (pv 3) (nomark _))
        (pss_cons (ps_set (i := 4) sc_shown_row.nd rfl (Or.inl rfl) (pe_dget hu (pe_dget hu (pv 0) (pv 1) (fun _ _ => rfl)) (pv 3) (fun _ _ => rfl)))
      (pss_one (ps_expr (pe_bm PySem.F.plainAttrs_list PySem.F.slot_list_append PySem.F.type_list_append mt_append (pv 2) (pa_cons (pe_fstr (pf_txt (pf_val (pv 3) (pf_txt (pf_val (pv 4) pf_nil))))) pa_nil)))))
        pss_nil)))
      (pss_one (ps_ret (pe_op op_add_str (pe_op op_add_str (pv 1) pe_str) (pe_bm PySem.F.plainAttrs_str PySem.F.slot_str_join PySem.F.type_str_join mt_join pe_str (pa_cons (pv 2) pa_nil))))))), ?_⟩
    refine ⟨(by decide), fun p hp => ?_⟩
    have S1 := Same.updN (o := .lst []) hp
    have hN1 := hN.sm S1.sm
    refine ⟨_, rfl, _, rfl, a, .ref b, rfl, hN1.dget hb, rfl, b, _, (f x).map (·.1), rfl, hN1.inn _ (addrOf_mem hb), keysS_encI _, by rw [List.length_map]; omega, fun r hr' => ⟨r, rfl, ⟨_, SqL.of upd_same⟩, ?_⟩⟩
    have pr : p ≠ r := fun e => by rw [← e, upd_same] at hr'; cases hr'
    have S2 := S1.trans (Same.updN (o := .lst ((sortS ((f x).map (·.1))).map V.str)) hr')
    refine for_list (xs := (sortS ((f x).map (·.1))).map V.str) (fun i σ H2 => ∃ x3 x4, σ = [some (.ref a), some (.str x), some (.ref p), x3, x4] ∧ Same H H2 ∧ H2 r = some (.lst ((sortS ((f x).map (·.1))).map V.str)) ∧ H2 p = some (.lst (((((sortS ((f x).map (·.1))).take i).filter fun y => decide (sLt x y)).map (endS f x)).map V.str))) ?_ (fun i σ H2 hi pv => ?_) (fun i z σ H2 hz pv => ?_) (fun σ H2 pv => ?_)
    · exact ⟨_, _, rfl, S2, upd_same, by rw [upd_ne pr, upd_same]; rfl⟩
    · obtain ⟨_, _, rfl, _, hR, _⟩ := pv
      exact SqL.of hR
    · obtain ⟨x3, x4, rfl, hS, hR, hP⟩ := pv
      rw [List.getElem?_map] at hz
      cases hy : (sortS ((f x).map (·.1)))[i]? with
      | none => rw [hy] at hz; cases hz
      | some y =>
      rw [hy] at hz
      cases hz
      have hym : y ∈ (f x).map (·.1) := mem_sortS.mp (List.mem_of_getElem? hy)
      obtain ⟨hyk, hyn, v, hv, hvd, hv1, hv2⟩ := hg.end hx hym
      have hN2 := hN.sm hS.sm
      have hel := hg.endlen hx hym
      have hlen : (((sortS ((f x).map (·.1))).take i).filter fun y => decide (sLt x y)).length ≤ 12 := by
        have h1 := List.length_filter_le (fun y => decide (sLt x y)) ((sortS ((f x).map (·.1))).take i)
        rw [List.length_take, sortS_len, List.length_map] at h1
        omega
      refine ⟨_, rfl, _, rfl, _, _, rfl, rfl, _, rfl, iteD (fun hlt => ?_) (fun hlt => ?_)⟩
      · have hlt : sLt x y := hlt
        have ee : Str.empty ++ " " ++ y ++ " " ++ numS v = endS f x y := by
          unfold endS; rw [hvd, show Str.empty ++ (" " : Str) = " " from cs_inj (by rw [cs_append]; rfl)]
        have l1 : (Str.empty ++ " " ++ y ++ " " ++ numS v).length ≤ 20 := by rw [ee]; exact hel
        have l2 := l1; have l3 := l1; have l4 := l1
        rw [str_len] at l2
        rw [str_len, str_len] at l3
        rw [str_len, str_len, str_len] at l4
        refine ⟨_, rfl, _, rfl, a, _, rfl, hN2.dget hb, _, rfl, b, _, rfl, hN2.rget' hb hv, ?_⟩
        refine ⟨_, rfl, .inl ⟨rfl, _, SqL.of hP⟩, sz (by omega), _, rfl, y, .inl ⟨y, rfl, rfl, sz (by have := hyn.2.1; omega)⟩, sz (by omega), sz (by omega), _, rfl, numS v, .inr ⟨v, rfl, rfl, num_log (by omega) (by omega)⟩, sz (by omega), sz (by omega), ?_⟩
        refine ⟨p, _, _, rfl, rfl, hP, by rw [List.length_map, List.length_map]; exact szl (by omega), _, _, rfl, hS.upd hp, by rw [upd_ne (Ne.symm pr)]; exact hR, ?_⟩
        rw [upd_same, ee, List.take_add_one, hy, List.filter_append, List.map_append, List.map_append]
        simp [hlt]
      · have hlt : ¬ sLt x y := hlt
        refine ⟨_, _, rfl, hS, hR, ?_⟩
        rw [hP, List.take_add_one, hy, List.filter_append, List.map_append, List.map_append]
        simp [hlt]
    · obtain ⟨x3, x4, rfl, hS, hR, hP⟩ := pv
      rw [List.length_map, List.take_of_length_le (Nat.le_refl _)] at hP
      have hxn := (hg.nm x hx).2.1
      have e1 : (":" : Str).length = 1 := by decide +kernel
      have hyl := ysOf_len (f := f) x
      have hsum : (((ysOf f x).map (endS f x)).map (·.length)).sum ≤ 12 * 20 := by
        have := StrLaws.sumLen_le (B := 20) ((ysOf f x).map (endS f x)) (fun z hz => by obtain ⟨y, hy, rfl⟩ := List.mem_map.mp hz; exact hg.endlen hx (ysOf_mem hy).1)
        rw [List.length_map] at this
        have h2 : (ysOf f x).length * 20 ≤ 12 * 20 := Nat.mul_le_mul_right _ (by omega)
        omega
      refine ⟨_, rfl, _, _, rfl, rfl, sz (by omega), rfl, _, rfl, _, p, (ysOf f x).map (endS f x), rfl, rfl, SqL.of hP, ?_, _, _, rfl, rfl, ?_, q _ hS⟩
      · have e2 : ("," : Str).length = 1 := by decide +kernel
        rw [e2, List.length_map]
        omega
      · have := hg.taillen hx
        rw [str_len]
        exact sz (by show _ + (tailS f x).length ≤ 1000; omega)
def sp_show (K : PySem.W.Frag) : Sp := fun vs H Q _ => ∃ (a : Addr) (bs : Outer) (f : Str → L2.Row), vs = [.ref a] ∧ NetR H a bs f ∧ GT (bs.map (·.1)) f ∧ ∀ H', Same H H' → Q (.str (netS (bs.map (·.1)) f)) H'
theorem ok_show_net (T : Txt K mg t) : FnOk P w K mg base CX0 2 t.show_net t.fd_show_net ["net"] (sp_show K) := by
  refine T.f_show_net.fn.ok sc_show_net (fun vs H Q E h => ?_) (fun cdv A outer s H vs Q E hr h => ?_)
  · obtain ⟨a, bs, f, rfl, _⟩ := h; rfl
  · obtain ⟨a, bs, f, rfl, hN, hg, q⟩ := h
    have hu := hu_of hr
    generalize hks : bs.map (·.1) = ks at hg q
    have hkl := hg.len
    have hkb : ks.length = bs.length := by rw [← hks, List.length_map]
    refine ⟨_, (pss_one (ps_ret (pe_bm PySem.F.plainAttrs_str PySem.F.slot_str_join PySem.F.type_str_join mt_join pe_str (pa_cons (pe_comp ["place"] [0] rfl (pi_list (pe_callB call_sortedD (by rfl) T.b_sorted boot_sorted (pa_cons (pv 0) pa_nil))) (fun _ _ _ _ _ => (pg_name (i := 0) (show (["place", "net"] : List Str).Nodup by decide +kernel) rfl (Or.inl rfl))) (fun _ _ _ _ _ => pif_nil) (fun _ _ _ _ _ => (pe_call (ok_shown_row T) (hr.mono (by decide)) rfl T.f_shown_row.mg T.f_shown_row.kp T.f_shown_row.bd .nil pass0 (pa_cons (pv 1) (pa_cons (pv 0) pa_nil)))) ⟨⟨_, rfl, rfl, .inl rfl⟩, trivial⟩ (hfr := by show ∀ y ∈ (_ : List (Str × NameKind)), y.2 = NameKind.free → (defScope s_show_net).names.lookup y.1 = some NameKind.cell ∨ (defScope s_show_net).names.lookup y.1 = some NameKind.free; decide +kernel)) pa_nil)))), ?_⟩
    refine ⟨rfl, _, rfl, rfl, a, _, ks, rfl, hN.out, hks ▸ hN.keys, by omega, fun r hr' => ⟨r, rfl, ⟨_, SqL.of upd_same⟩, ?_⟩⟩
    have S1 := Same.updN (o := .lst ((sortS ks).map V.str)) hr'
    refine comp_inv (sortS ks).length (fun i ys H' => i ≤ 12 ∧ Same H H' ∧ H' r = some (.lst ((sortS ks).map V.str)) ∧ ys = (((sortS ks).take i).map (rowS f)).map V.str) ⟨by omega, S1, upd_same, rfl⟩ (fun i ys H' p => ?_) (fun i ys H' hi p => ?_) (fun ys H' p => ?_)
    · obtain ⟨h12, _, _, rfl⟩ := p
      rw [List.length_map, List.length_map, List.length_take]
      exact szl (by omega)
    · obtain ⟨h12, hS, hR, rfl⟩ := p
      obtain ⟨x, hx⟩ : ∃ x, (sortS ks)[i]? = some x := ⟨_, List.getElem?_eq_getElem hi⟩
      refine ⟨⟨_, .str x, SqL.of hR, by rw [List.getElem?_map, hx]; rfl⟩, ?_⟩
      rintro v H2 ⟨rfl, hv⟩
      have hv := hv _ (SqL.of hR)
      rw [List.getElem?_map, hx] at hv
      cases hv
      simp only [gName, tYes, ↓reduceIte]
      have hxm : x ∈ ks := mem_sortS.mp (List.mem_of_getElem? hx)
      refine ⟨_, rfl, _, rfl, a, bs, f, x, rfl, hN.sm hS.sm, hks ▸ hg, hks ▸ hxm, fun H3 hS3 => nxC hi ⟨by rw [sortS_len] at hi; omega, hS.trans hS3, hS3 _ _ hR, ?_⟩⟩
      rw [List.take_add_one, hx, List.map_append, List.map_append]; rfl
    · obtain ⟨h12, hS, hR, rfl⟩ := p
      refine ⟨⟨_, SqL.of hR, by rw [List.length_map]; exact Nat.le_refl _⟩, fun p hp => ⟨_, p, (sortS ks).map (rowS f), rfl, rfl, SqL.of ?_, ?_, q _ (hS.trans (Same.updN hp))⟩⟩
      · rw [upd_same, List.take_of_length_le (Nat.le_refl _)]
      · have h1 := StrLaws.sumLen_le (B := 261) ((sortS ks).map (rowS f)) (fun z hz => by obtain ⟨y, hy, rfl⟩ := List.mem_map.mp hz; exact hg.rowlen (mem_sortS.mp hy))
        rw [List.length_map, sortS_len] at h1
        have e2 : ("\n" : Str).length = 1 := by decide +kernel
        rw [e2, List.length_map, sortS_len]
        have h2 : ks.length * 261 ≤ 12 * 261 := Nat.mul_le_mul_right _ (by omega)
        omega
end
end K06

set_option Elab.async false
set_option linter.all false
set_option maxRecDepth 100000
set_option maxHeartbeats 4000000
namespace K06
open PySem L2 PySem.Spec PyProof.Rows
section
variable {P : Program} {w : World} {K : PySem.W.Frag} {mg : Str → Option Value} {base : Heap} {t : Adr}
/-! ### a text read -/
def sp_trows (K : PySem.W.Frag) : Sp := fun vs H Q _ => ∃ (ks : List Str) (f : Str → L2.Row), vs = [.str (netS ks f)] ∧ GT ks f ∧ ∀ (p : Addr) (H' : Hp), Same H H' → H p = none → H' p = some (.lst (((sortS ks).map (rowS f)).map V.str)) → Q (.ref p) H'
theorem ok_told_rows (T : Txt K mg t) : FnOk P w K mg base CX0 1 t.told_rows t.fd_told_rows ["text"] (sp_trows K) := by
  refine T.f_told_rows.fn.ok sc_told_rows (fun vs H Q E h => ?_) (fun cdv A outer s H vs Q E hr h => ?_)
  · obtain ⟨ks, f, rfl, _⟩ := h; rfl
  · obtain ⟨ks, f, rfl, hg, q⟩ := h
    refine ⟨_, (pss_cons (ps_if (pt_cmpR op_eq (pv 0) pe_str (nomark _))
        (pss_one (ps_ret (pe_lst pa_nil)))
        pss_nil)
      (pss_one (ps_ret (pe_bm PySem.F.plainAttrs_str PySem.F.slot_str_split PySem.F.type_str_split mt_split (pv 0) (pa_cons pe_str pa_nil))))), ?_⟩
    refine ⟨_, rfl, rfl, _, rfl, ?_⟩
    by_cases hk : ks = []
    · rw [decide_eq_true (show V.str (netS ks f) = V.str "" by rw [net_nil hk])]
      refine iteT ⟨(by decide), fun p hp => q p _ (Same.updN hp) hp ?_⟩
      have : sortS ks = [] := by rw [hk]; simp [sortS]
      rw [upd_same, this]; rfl
    · rw [decide_eq_false (show ¬ V.str (netS ks f) = V.str "" from fun e => net_ne hk (by injection e))]
      have hl := hg.netlen
      refine iteF ⟨_, rfl, rfl, _, _, rfl, rfl, (by decide +kernel), sz' (by omega), fun p hp => ?_⟩
      rw [hg.netsplit hk]
      exact q p _ (Same.updN hp) hp upd_same
def sp_tlines (K : PySem.W.Frag) : Sp := fun vs H Q _ => ∃ (ks : List Str) (f : Str → L2.Row) (x : Str), vs = [.str x, .str (tailS f x)] ∧ GT ks f ∧ x ∈ ks ∧ ∀ (p : Addr) (H' : Hp), Same H H' → H p = none → LinesAt K H' p (rowL f x (sortS ((f x).map (·.1)))) → Q (.ref p) H'
theorem ok_told_lines (T : Txt K mg t) : FnOk P w K mg base CX0 4 t.told_lines t.fd_told_lines ["place", "told"] (sp_tlines K) := by
  refine T.f_told_lines.fn.ok sc_told_lines (fun vs H Q E h => ?_) (fun cdv A outer s H vs Q E hr h => ?_)
  · obtain ⟨ks, f, x, rfl, _⟩ := h; rfl
  · obtain ⟨ks, f, x, rfl, hg, hx, q⟩ := h
    rw [rowL_ys] at q
    refine ⟨_, (pss_cons (ps_if (pt_cmpR op_eq (pv 1) pe_str (nomark _))
        (pss_one (ps_ret (pe_lst pa_nil)))
        pss_nil)
      (pss_cons (ps_set (i := 2) sc_told_lines.nd rfl (Or.inl rfl) (pe_lst pa_nil))
      (pss_cons (ps_for PassesOwn.never rfl (pi_list (pe_bm PySem.F.plainAttrs_str PySem.F.slot_str_split PySem.F.type_str_split mt_split (pv 1) (pa_cons pe_str pa_nil))) (pg_name (i := 3) sc_told_lines.nd rfl (Or.inl rfl))
        (pss_cons (ps_set (i := 4) sc_told_lines.nd rfl (Or.inl rfl) (pe_bm PySem.F.plainAttrs_str PySem.F.slot_str_split PySem.F.type_str_split mt_split (pv 3) (pa_cons pe_str pa_nil)))
      (pss_cons (ps_if (pt_cmpR op_ne (pe_callB call_len (by rfl) T.b_len boot_len' (pa_cons (pv 4) pa_nil)) pe_int (nomark _))
        (pss_one ps_never)
        pss_nil)
      (pss_one (ps_expr (pe_bm PySem.F.plainAttrs_list PySem.F.slot_list_append PySem.F.type_list_append mt_append (pv 2) (pa_cons (pe_tup (pa_cons (pv 0) (pa_cons (pe_ix ix_list (pv 4) pe_int (fun _ _ => rfl)) (pa_cons (pe_call (ok_number_of T) (hr.mono (by decide)) rfl T.f_number_of.mg T.f_number_of.kp T.f_number_of.bd .nil pass0 (pa_cons (pe_ix ix_list (pv 4) pe_int (fun _ _ => rfl)) pa_nil)) pa_nil)))) pa_nil)))))))
      (pss_one (ps_ret (pv 2)))))), ?_⟩
    refine ⟨_, rfl, rfl, _, rfl, ?_⟩
    by_cases hk : ysOf f x = []
    · rw [decide_eq_true (show V.str (tailS f x) = V.str "" by rw [tail_nil hk])]
      refine iteT ⟨(by decide), fun p hp => q p _ (Same.updN hp) hp ⟨[], upd_same, ?_⟩⟩
      rw [hk]; exact .nil
    · rw [decide_eq_false (show ¬ V.str (tailS f x) = V.str "" from fun e => tail_ne hk (by injection e))]
      have hl := hg.taillen hx
      have hyl := ysOf_len (f := f) x
      have hrl := hg.row hx
      refine iteF ⟨(by decide), fun p hp => ?_⟩
      have S1 := Same.updN (o := .lst []) hp
      refine ⟨_, rfl, rfl, _, _, rfl, rfl, (by decide +kernel), sz (by omega), fun r hr' => ?_⟩
      rw [hg.tailsplit hx hk]
      refine ⟨r, rfl, ⟨_, SqL.of upd_same⟩, ?_⟩
      have pr : p ≠ r := fun e => by rw [← e, upd_same] at hr'; cases hr'
      have S2 := S1.trans (Same.updN (o := .lst (((ysOf f x).map (endS f x)).map V.str)) hr')
      refine for_list (xs := ((ysOf f x).map (endS f x)).map V.str) (fun i σ H2 => ∃ x3 x4, σ = [some (.str x), some (.str (tailS f x)), some (.ref p), x3, x4] ∧ Same H H2 ∧ H2 r = some (.lst (((ysOf f x).map (endS f x)).map V.str)) ∧ LinesAt K H2 p (((ysOf f x).take i).map fun y => (x, y, (look (f x) y).getD 0))) ?_ (fun i σ H2 hi pv => ?_) (fun i z σ H2 hz pv => ?_) (fun σ H2 pv => ?_)
      · exact ⟨_, _, rfl, S2, upd_same, [], by rw [upd_ne pr, upd_same], .nil⟩
      · obtain ⟨_, _, rfl, _, hR, _⟩ := pv
        exact SqL.of hR
      · obtain ⟨x3, x4, rfl, hS, hR, zs, hz1, hz2⟩ := pv
        rw [List.getElem?_map, List.getElem?_map] at hz
        cases hy : (ysOf f x)[i]? with
        | none => rw [hy] at hz; cases hz
        | some y =>
        rw [hy] at hz
        cases hz
        have hym := List.mem_of_getElem? hy
        obtain ⟨hyk, hyn, v, hv, hvd, hv1, hv2⟩ := hg.end hx (ysOf_mem hym).1
        have hel := hg.endlen hx (ysOf_mem hym).1
        have hzl := hz2.length
        rw [List.length_map, List.length_map, List.length_take] at hzl
        refine ⟨_, rfl, rfl, _, _, rfl, rfl, (by decide +kernel), sz (by omega), fun q1 hq1 => ?_⟩
        rw [end_split hyn (by omega)]
        have n1 : p ≠ q1 := ne_of_none hz1 hq1
        refine ⟨_, rfl, _, 3, rfl, .inl ⟨_, SqL.of upd_same, rfl⟩, rfl, _, rfl, iteNS rfl ?_⟩
        refine ⟨_, rfl, .inl ⟨rfl, _, SqL.of (by rw [upd_ne n1]; exact hz1)⟩, _, rfl, _, rfl, _, _, _, _, rfl, rfl, SqL.of upd_same, rfl, _, rfl, _, _, _, _, rfl, rfl, SqL.of upd_same, rfl, (look (f x) y).getD 0, rfl, by omega, by omega, fun H3 hS3 => ⟨(by show 3 ≤ sizeLine; decide), fun tt ht => ?_⟩⟩
        have hz1' : H3 p = some (.lst zs) := hS3 _ _ (by rw [upd_ne n1]; exact hz1)
        have hz2' : Reps K H3 zs _ := (hz2.sm (Same.updN (o := .lst [.str Str.empty, .str y, .str (numS ((look (f x) y).getD 0))]) hq1).sm).sm hS3.sm
        have pt : p ≠ tt := ne_of_none hz1' ht
        refine ⟨p, zs, _, rfl, rfl, (by rw [upd_ne pt]; exact hz1'), szl (by omega), _, _, rfl, ?_, ?_, ?_⟩
        · exact ((hS.trans (Same.updN hq1)).trans hS3 |>.trans (Same.updN ht)).upd hp
        · rw [upd_ne (Ne.symm pr)]
          exact (Same.updN ht) _ _ (hS3 _ _ ((Same.updN hq1) _ _ hR))
        · rw [List.take_add_one, hy, List.map_append]
          exact LinesAt.snoc hz1' hz2' ht (x, y, (look (f x) y).getD 0)
      · obtain ⟨x3, x4, rfl, hS, hR, hL⟩ := pv
        rw [List.length_map, List.length_map, List.take_of_length_le (Nat.le_refl _)] at hL
        exact ⟨_, rfl, q p H2 hS hp hL⟩
def sp_tnet (K : PySem.W.Frag) : Sp := fun vs H Q _ => ∃ (ks : List Str) (f : Str → L2.Row), vs = [.str (netS ks f)] ∧ GT ks f ∧ ∀ p H' g, NS0 H p (sortS (sortS ks)) g H' → MNet (sortS ks) (linesF ks f) g → Q (.ref p) H'
theorem ok_told_net (T : Txt K mg t) : FnOk P w K mg base CX0 5 t.told_net t.fd_told_net ["text"] (sp_tnet K) := by
  refine T.f_told_net.fn.ok sc_told_net (fun vs H Q E h => ?_) (fun cdv A outer s H vs Q E hr h => ?_)
  · obtain ⟨ks, f, rfl, _⟩ := h; rfl
  · obtain ⟨ks, f, rfl, hg, q⟩ := h
    have hkl := hg.len
    refine ⟨_, (pss_cons (ps_set (i := 1) sc_told_net.nd rfl (Or.inl rfl) (pe_lst pa_nil))
      (pss_cons (ps_set (i := 2) sc_told_net.nd rfl (Or.inl rfl) (pe_lst pa_nil))
      (pss_cons (ps_for PassesOwn.never rfl (pi_list (pe_call (ok_told_rows T) (hr.mono (by decide)) rfl T.f_told_rows.mg T.f_told_rows.kp T.f_told_rows.bd .nil pass0 (pa_cons (pv 0) pa_nil))) (pg_name (i := 3) sc_told_net.nd rfl (Or.inl rfl))
        (pss_cons (ps_set (i := 4) sc_told_net.nd rfl (Or.inl rfl) (pe_bm PySem.F.plainAttrs_str PySem.F.slot_str_partition PySem.F.type_str_partition mt_partition (pv 3) (pa_cons pe_str pa_nil)))
      (pss_cons (ps_expr (pe_bm PySem.F.plainAttrs_list PySem.F.slot_list_append PySem.F.type_list_append mt_append (pv 1) (pa_cons (pe_ix ix_tup (pv 4) pe_int (fun _ _ => rfl)) pa_nil)))
      (pss_one (ps_expr (pe_bm PySem.F.plainAttrs_list PySem.F.slot_list_extend PySem.F.type_list_extend mt_extend (pv 2) (pa_cons (pe_call (ok_told_lines T) (hr.mono (by decide)) rfl T.f_told_lines.mg T.f_told_lines.kp T.f_told_lines.bd .nil pass0 (pa_cons (pe_ix ix_tup (pv 4) pe_int (fun _ _ => rfl)) (pa_cons (pe_ix ix_tup (pv 4) pe_int (fun _ _ => rfl)) pa_nil))) pa_nil)))))))
      (pss_one (ps_ret (pe_call (ok_made_net T) (hr.mono (by decide)) rfl T.f_made_net.mg T.f_made_net.kp T.f_made_net.bd .nil pass0 (pa_cons (pv 1) (pa_cons (pv 2) pa_nil)))))))), ?_⟩
    refine ⟨(by decide), fun p1 hp1 => ⟨(by decide), fun p2 hp2 => ?_⟩⟩
    have S1 := Same.updN (o := .lst []) hp1
    have S2 := S1.trans (Same.updN (o := .lst []) hp2)
    have n12 : p1 ≠ p2 := fun e => by rw [← e, upd_same] at hp2; cases hp2
    have hp20 := S1.free hp2
    refine ⟨_, rfl, ks, f, rfl, hg, fun r H1 S3 hr0 hr1 => ⟨r, rfl, ⟨_, SqL.of hr1⟩, ?_⟩⟩
    have S4 := S2.trans S3
    have rp1 : r ≠ p1 := fun e => by rw [e, upd_ne n12, upd_same] at hr0; cases hr0
    have rp2 : r ≠ p2 := fun e => by rw [e, upd_same] at hr0; cases hr0
    refine for_list (xs := ((sortS ks).map (rowS f)).map V.str) (fun i σ H2 => ∃ x3 x4, σ = [some (.str (netS ks f)), some (.ref p1), some (.ref p2), x3, x4] ∧ Same H H2 ∧ H2 r = some (.lst (((sortS ks).map (rowS f)).map V.str)) ∧ H2 p1 = some (.lst (((sortS ks).take i).map V.str)) ∧ LinesAt K H2 p2 (((sortS ks).take i).flatMap fun x => rowL f x (sortS ((f x).map (·.1)))) ∧ (((sortS ks).take i).flatMap fun x => rowL f x (sortS ((f x).map (·.1)))).length ≤ 12 * i) ?_ (fun i σ H2 hi pv => ?_) (fun i z σ H2 hz pv => ?_) (fun σ H2 pv => ?_)
    · exact ⟨_, _, rfl, S4, hr1, S3 _ _ (by rw [upd_ne n12, upd_same]; rfl), ⟨[], S3 _ _ upd_same, .nil⟩, Nat.zero_le _⟩
    · obtain ⟨_, _, rfl, _, hR, _⟩ := pv
      exact SqL.of hR
    · obtain ⟨x3, x4, rfl, hS, hR, hP, ⟨zs, hz1, hz2⟩, hll⟩ := pv
      rw [List.getElem?_map, List.getElem?_map] at hz
      cases hy : (sortS ks)[i]? with
      | none => rw [hy] at hz; cases hz
      | some x =>
      rw [hy] at hz
      cases hz
      have hxm := mem_sortS.mp (List.mem_of_getElem? hy)
      have hi' : i < 12 := by
        have := (List.getElem?_eq_some_iff.mp hy).1
        rw [sortS_len] at this
        omega
      have hrl := hg.rowlen hxm
      refine ⟨_, rfl, rfl, _, _, rfl, rfl, (by decide +kernel), sz (by omega), fun q1 hq1 => ?_⟩
      rw [hg.rowpart hxm]
      have m1 : p1 ≠ q1 := ne_of_none hP hq1
      have m2 : p2 ≠ q1 := ne_of_none hz1 hq1
      have mr : r ≠ q1 := ne_of_none hR hq1
      refine ⟨_, rfl, .inl ⟨rfl, _, SqL.of (by rw [upd_ne m1]; exact hP)⟩, _, rfl, _, _, _, _, rfl, rfl, SqT.of upd_same, rfl, p1, _, _, rfl, rfl, (by rw [upd_ne m1]; exact hP), by rw [List.length_map, List.length_take]; exact szl (by omega), ?_⟩
      generalize hH3 : upd (upd H2 q1 (.tup [.str x, .str ":", .str (tailS f x)])) p1 (.lst (((sortS ks).take i).map V.str ++ [.str x])) = H3
      have tq : H3 q1 = some (.tup [.str x, .str ":", .str (tailS f x)]) := by rw [← hH3, upd_ne (Ne.symm m1), upd_same]
      have t1 : H3 p1 = some (.lst (((sortS ks).take (i + 1)).map V.str)) := by
        rw [← hH3, upd_same, List.take_add_one, hy, List.map_append]; rfl
      have t2 : H3 p2 = some (.lst zs) := by rw [← hH3, upd_ne (Ne.symm n12), upd_ne m2]; exact hz1
      have t3 : H3 r = some (.lst (((sortS ks).map (rowS f)).map V.str)) := by rw [← hH3, upd_ne rp1, upd_ne mr]; exact hR
      have t4 : Same H H3 := by rw [← hH3]; exact (hS.trans (Same.updN hq1)).upd hp1
      have t5 : Reps K H3 zs ((((sortS ks).take i).flatMap fun x => rowL f x (sortS ((f x).map (·.1)))).map lineD) := by
        refine Reps.tups (fun b ys hb => ?_) hz2
        rcases hb with hb | hb
        · refine .inl ?_
          have e1 : b ≠ p1 := fun e => by
            subst e
            rcases hb with hb | ⟨o, hb⟩ <;> rw [hP] at hb <;> cases hb
          have e2 : b ≠ q1 := fun e => by
            subst e
            rcases hb with hb | ⟨o, hb⟩ <;> rw [hq1] at hb <;> cases hb
          rw [← hH3]
          rcases hb with hb | ⟨o, hb⟩
          · exact .inl (by rw [upd_ne e1, upd_ne e2]; exact hb)
          · exact .inr ⟨o, by rw [upd_ne e1, upd_ne e2]; exact hb⟩
        · exact .inr hb
      clear hH3
      refine ⟨_, rfl, .inl ⟨rfl, _, SqL.of t2⟩, _, rfl, _, _, _, _, rfl, rfl, SqT.of tq, rfl, _, rfl, _, _, _, _, rfl, rfl, SqT.of tq, rfl, ks, f, x, rfl, hg, hxm, fun q2 H4 S5 hq2 hL => ?_⟩
      obtain ⟨ys, hy1, hy2⟩ := hL
      have hzl := hz2.length
      have hyl := hy2.length
      rw [List.length_map] at hzl hyl
      have hrow : (rowL f x (sortS ((f x).map (·.1)))).length ≤ 12 := by
        rw [rowL_ys, List.length_map]
        have h1 := ysOf_len (f := f) x
        have h2 := hg.row hxm
        omega
      have hflat : (((sortS ks).take (i + 1)).flatMap fun x => rowL f x (sortS ((f x).map (·.1)))) = (((sortS ks).take i).flatMap fun x => rowL f x (sortS ((f x).map (·.1)))) ++ rowL f x (sortS ((f x).map (·.1))) := by
        rw [List.take_add_one, hy, List.flatMap_append]; simp
      refine ⟨p2, q2, zs, ys, rfl, rfl, S5 _ _ t2, hy1, sz (by omega), _, _, rfl, (t4.trans S5).upd hp20, ?_, ?_, ?_, ?_⟩
      · rw [upd_ne rp2]; exact S5 _ _ t3
      · rw [upd_ne n12]; exact S5 _ _ t1
      · rw [hflat]
        exact LinesAt.cat (S5 _ _ t2) (t5.sm S5.sm) hy2
      · rw [hflat, List.length_append]; omega
    · obtain ⟨x3, x4, rfl, hS, hR, hP, ⟨zs, hz1, hz2⟩, hll⟩ := pv
      rw [List.length_map, List.length_map, List.take_of_length_le (Nat.le_refl _)] at hP hz2
      have hLo : LinesOf ks f 1000000000 (linesF ks f) := linesF_jn
      refine ⟨_, rfl, _, rfl, p1, p2, sortS ks, zs, linesF ks f, rfl, SqL.of hP, SqL.of hz1, hz2, sortS_nodup hg.nd, fun s hs => hg.nm s (mem_sortS.mp hs), by rw [sortS_len]; exact hkl, hLo.apart hg.g hg.nd, fun l hl => ?_, fun p H3 g hNS hM => q p H3 g ?_ hM⟩
      · obtain ⟨a1, a2, a3, a4, a5⟩ := hLo.mem hg.g hl
        exact ⟨mem_sortS.mpr a1, mem_sortS.mpr a2, a3, a4, a5⟩
      · obtain ⟨bs, c1, c2, c3, c4⟩ := hNS
        exact ⟨bs, hS.trans c1, c2, c3, c4.same hS⟩
def sp_read (K : PySem.W.Frag) : Sp := fun vs H Q _ => ∃ (ks : List Str) (f : Str → L2.Row), vs = [.str (netS ks f)] ∧ GT ks f ∧ ∀ (p : Addr) (H' : Hp) (g : Str → L2.Row) (bs : Outer), Same H H' → NetAt H' p bs g → (bs.map (·.1)).Perm ks → New H p bs → GT (bs.map (·.1)) g → (∀ x ∈ bs.map (·.1), ∀ y, look (g x) y = look (f x) y) → Q (.ref p) H'
theorem ok_read_net (T : Txt K mg t) : FnOk P w K mg base CX0 6 t.read_net t.fd_read_net ["text"] (sp_read K) := by
  refine T.f_read_net.fn.ok sc_read_net (fun vs H Q E h => ?_) (fun cdv A outer s H vs Q E hr h => ?_)
  · obtain ⟨ks, f, rfl, _⟩ := h; rfl
  · obtain ⟨ks, f, rfl, hg, q⟩ := h
    refine ⟨_, (pss_cons (ps_if (pt_not (pt_val (pe_callB call_isi (by rfl) T.b_isinstance boot_isinstance' (pa_cons (pv 0) (pa_cons (pe_bltn (v := .ty "str") rfl T.b_str boot_ty_str rfl) pa_nil)))))
        (pss_one ps_never)
        pss_nil)
      (pss_cons (ps_tryN (fun _ _ h => h) (pss_one (ps_set (i := 1) sc_read_net.nd rfl (Or.inl rfl) (pe_call (ok_told_net T) (hr.mono (by decide)) rfl T.f_told_net.mg T.f_told_net.kp T.f_told_net.bd .nil pass0 (pa_cons (pv 0) pa_nil)))))
      (pss_cons (ps_if (pt_cmpR op_ne (pe_call (ok_show_net T) (hr.mono (by decide)) rfl T.f_show_net.mg T.f_show_net.kp T.f_show_net.bd .nil pass0 (pa_cons (pv 1) pa_nil)) (pv 0) (nomark _))
        (pss_one ps_never)
        pss_nil)
      (pss_one (ps_ret (pv 1)))))), ?_⟩
    refine ⟨_, rfl, _, .str (netS ks f), "str", rfl, .str _, rfl, _, rfl, iteF ⟨_, rfl, ks, f, rfl, hg, fun p H1 g hNS hM => ?_⟩⟩
    obtain ⟨bs, S1, hN, hbs, hnew⟩ := hNS
    have hp : (bs.map (·.1)).Perm ks := by rw [hbs]; exact (sortS_perm _).trans (sortS_perm _)
    have hp2 : (bs.map (·.1)).Perm (sortS ks) := by rw [hbs]; exact sortS_perm _
    have hlook : ∀ x ∈ bs.map (·.1), ∀ y, look (g x) y = look (f x) y := fun x hx y => hM.same linesF_jn hg.g (sortS_perm ks) (hp2.mem_iff.mp hx) y
    have hnd : ∀ x ∈ bs.map (·.1), ((g x).map (·.1)).Nodup := fun x hx => hM.nd x (hp2.mem_iff.mp hx)
    have hg2 := hg.of_same hp hnd hlook
    refine ⟨_, rfl, p, bs, g, rfl, hN.r, hg2, fun H2 S2 => ⟨_, rfl, rfl, _, rfl, iteNS ?_ ⟨_, rfl, q p H2 g bs (S1.trans S2) (hN.same S2) hp hnew hg2 hlook⟩⟩⟩
    rw [netS_congr hp (fun x hx => hg.g.nd x hx) (fun x hx => hnd x (hp.mem_iff.mpr hx)) (fun x hx y => hlook x (hp.mem_iff.mpr hx) y)]
end
end K06

set_option Elab.async false
set_option linter.all false
set_option maxRecDepth 100000
set_option maxHeartbeats 4000000
namespace K06
open PySem L2 PySem.Spec PyProof.Rows
section
variable {P : Program} {w : World} {K : PySem.W.Frag} {mg : Str → Option Value} {base : Heap} {t : Adr}
def sp_written (K : PySem.W.Frag) : Sp := fun vs H Q _ => ∃ (a : Addr) (bs : Outer) (f : Str → L2.Row), vs = [.ref a] ∧ NetR H a bs f ∧ GT (bs.map (·.1)) f ∧ ∀ H', Same H H' → Q (.str (netS (bs.map (·.1)) f)) H'
theorem ok_l_written (T : Txt K mg t) : FnOk P w K mg base CX0 1 t.l_written t.fd_l_written ["_law_net_here"] (sp_written K) := by
  refine T.f_l_written.fn.ok sc_l_written (fun vs H Q E h => ?_) (fun cdv A outer s H vs Q E hr h => ?_)
  · obtain ⟨a, bs, f, rfl, _⟩ := h; rfl
  · obtain ⟨a, bs, f, rfl, hN, hg, q⟩ := h
    have hu := hu_of hr
    generalize hks : bs.map (·.1) = ks at hg q
    have hkl := hg.len
    have hkb : ks.length = bs.length := by rw [← hks, List.length_map]
    have e1 : (":" : Str).length = 1 := by decide +kernel
    have e2 : ("," : Str).length = 1 := by decide +kernel
    have e3 : ("\n" : Str).length = 1 := by decide +kernel
    refine ⟨_, (pss_cons (ps_set (i := 1) sc_l_written.nd rfl (Or.inl rfl) (pe_lst pa_nil))
      (pss_cons (ps_for PassesOwn.never rfl (pi_list (pe_callB call_sortedD (by rfl) T.b_sorted boot_sorted (pa_cons (pv 0) pa_nil))) (pg_name (i := 2) sc_l_written.nd rfl (Or.inl rfl))
        (pss_cons (ps_set (i := 3) sc_l_written.nd rfl (Or.inl rfl) (pe_lst pa_nil))
      (pss_cons (ps_for PassesOwn.never rfl (pi_list (pe_callB call_sortedD (by rfl) T.b_sorted boot_sorted (pa_cons (pe_dget hu (pv 0) (pv 2) (fun _ _ => rfl)) pa_nil))) (pg_name (i := 4) sc_l_written.nd rfl (Or.inl rfl))
        (pss_one (ps_if (pt_cmpR op_lt_str (pv 2) (pv 4) (nomark _))
        (pss_one (ps_expr (pe_bm PySem.F.plainAttrs_list PySem.F.slot_list_append PySem.F.type_list_append mt_append (pv 3) (pa_cons (pe_op op_add_str (pe_op op_add_str (pe_op op_add_str pe_str (pv 4)) pe_str) (pe_callTy call_str_int (by rfl) T.b_str boot_ty_str (pa_cons (pe_dget hu (pe_dget hu (pv 0) (pv 2) (fun _ _ => rfl)) (pv 4) (fun _ _ => rfl)) pa_nil))) pa_nil))))
        pss_nil)))
      (pss_one (ps_expr (pe_bm PySem.F.plainAttrs_list PySem.F.slot_list_append PySem.F.type_list_append mt_append (pv 1) (pa_cons (pe_op op_add_str (pe_op op_add_str (pv 2) pe_str) (pe_bm PySem.F.plainAttrs_str PySem.F.slot_str_join PySem.F.type_str_join mt_join pe_str (pa_cons (pv 3) pa_nil))) pa_nil)))))))
      (pss_one (ps_ret (pe_bm PySem.F.plainAttrs_str PySem.F.slot_str_join PySem.F.type_str_join mt_join pe_str (pa_cons (pv 1) pa_nil)))))), ?_⟩
    refine ⟨(by decide), fun p hp => ?_⟩
    have S0 := Same.updN (o := .lst []) hp
    refine ⟨_, rfl, rfl, a, _, ks, rfl, (hN.sm S0.sm).out, hks ▸ hN.keys, by omega, fun r hr' => ⟨r, rfl, ⟨_, SqL.of upd_same⟩, ?_⟩⟩
    have pr : p ≠ r := fun e => by rw [← e, upd_same] at hr'; cases hr'
    have S1 := S0.trans (Same.updN (o := .lst ((sortS ks).map V.str)) hr')
    refine for_list (xs := (sortS ks).map V.str) (fun i σ H2 => ∃ x2 x3 x4, σ = [some (.ref a), some (.ref p), x2, x3, x4] ∧ Same H H2 ∧ H2 r = some (.lst ((sortS ks).map V.str)) ∧ H2 p = some (.lst ((((sortS ks).take i).map (rowS f)).map V.str))) ?_ (fun i σ H2 hi pv => ?_) (fun i z σ H2 hz pv => ?_) (fun σ H2 pv => ?_)
    · exact ⟨_, _, _, rfl, S1, upd_same, by rw [upd_ne pr, upd_same]; rfl⟩
    · obtain ⟨_, _, _, rfl, _, hR, _⟩ := pv
      exact SqL.of hR
    · obtain ⟨x2, x3, x4, rfl, hS, hR, hP⟩ := pv
      rw [List.getElem?_map] at hz
      cases hxx : (sortS ks)[i]? with
      | none => rw [hxx] at hz; cases hz
      | some x =>
      rw [hxx] at hz
      cases hz
      have hx : x ∈ ks := mem_sortS.mp (List.mem_of_getElem? hxx)
      obtain ⟨b, hb⟩ := addrOf_some (bs := bs) (x := x) (hks ▸ hx)
      have hrl := hg.row hx
      refine ⟨(by decide), fun p2 hp2 => ?_⟩
      have p2p : p ≠ p2 := ne_of_none hP hp2
      have p2r : r ≠ p2 := ne_of_none hR hp2
      have hp20 := hS.free hp2
      have T1 := hS.trans (Same.updN (o := .lst []) hp2)
      have hN1 := hN.sm T1.sm
      refine ⟨_, rfl, _, rfl, a, .ref b, rfl, hN1.dget hb, rfl, b, _, (f x).map (·.1), rfl, hN1.inn _ (addrOf_mem hb), keysS_encI _, by rw [List.length_map]; omega, fun r2 hr2 => ⟨r2, rfl, ⟨_, SqL.of upd_same⟩, ?_⟩⟩
      have r2p2 : p2 ≠ r2 := fun e => by rw [← e, upd_same] at hr2; cases hr2
      have hr21 : H2 r2 = none := (Same.updN (o := .lst []) hp2).free hr2
      have r2p : p ≠ r2 := ne_of_none hP hr21
      have r2r : r ≠ r2 := ne_of_none hR hr21
      have T2 := T1.trans (Same.updN (o := .lst ((sortS ((f x).map (·.1))).map V.str)) hr2)
      refine for_list (xs := (sortS ((f x).map (·.1))).map V.str) (fun j σ H3 => ∃ x4, σ = [some (.ref a), some (.ref p), some (.str x), some (.ref p2), x4] ∧ Same H H3 ∧ H3 r = some (.lst ((sortS ks).map V.str)) ∧ H3 p = some (.lst ((((sortS ks).take i).map (rowS f)).map V.str)) ∧ H3 r2 = some (.lst ((sortS ((f x).map (·.1))).map V.str)) ∧ H3 p2 = some (.lst (((((sortS ((f x).map (·.1))).take j).filter fun y => decide (sLt x y)).map (endS f x)).map V.str))) ?_ (fun j σ H3 hj pv => ?_) (fun j z σ H3 hz pv => ?_) (fun σ H3 pv => ?_)
      · refine ⟨_, rfl, T2, ?_, ?_, upd_same, by rw [upd_ne r2p2, upd_same]; rfl⟩
        · rw [upd_ne r2r, upd_ne p2r]; exact hR
        · rw [upd_ne r2p, upd_ne p2p]; exact hP
      · obtain ⟨_, rfl, _, _, _, hR2, _⟩ := pv
        exact SqL.of hR2
      · obtain ⟨x4, rfl, hS3, hR3, hP3, hR23, hP23⟩ := pv
        rw [List.getElem?_map] at hz
        cases hy : (sortS ((f x).map (·.1)))[j]? with
        | none => rw [hy] at hz; cases hz
        | some y =>
        rw [hy] at hz
        cases hz
        have hym : y ∈ (f x).map (·.1) := mem_sortS.mp (List.mem_of_getElem? hy)
        obtain ⟨hyk, hyn, v, hv, hvd, hv1, hv2⟩ := hg.end hx hym
        have hN3 := hN.sm hS3.sm
        have hel := hg.endlen hx hym
        have hlen : (((sortS ((f x).map (·.1))).take j).filter fun y => decide (sLt x y)).length ≤ 12 := by
          have h1 := List.length_filter_le (fun y => decide (sLt x y)) ((sortS ((f x).map (·.1))).take j)
          rw [List.length_take, sortS_len, List.length_map] at h1
          omega
        refine ⟨_, rfl, _, rfl, _, _, rfl, rfl, _, rfl, iteD (fun hlt => ?_) (fun hlt => ?_)⟩
        · have hlt : sLt x y := hlt
          have ee : (" " : Str) ++ y ++ " " ++ numS v = endS f x y := by
            unfold endS; rw [hvd]
          have l1 : ((" " : Str) ++ y ++ " " ++ numS v).length ≤ 20 := by rw [ee]; exact hel
          have l2 := l1; have l3 := l1; have l4 := l1
          rw [str_len] at l2
          rw [str_len, str_len] at l3
          rw [str_len, str_len, str_len] at l4
          refine ⟨_, rfl, .inl ⟨rfl, _, SqL.of hP23⟩, _, rfl, _, _, rfl, rfl, sz (by omega), _, _, rfl, rfl, (by rw [str_len]; exact sz (by omega)), _, rfl, _, rfl, a, _, rfl, hN3.dget hb, _, rfl, b, _, rfl, hN3.rget' hb hv, v, rfl, num_log (by omega) (by omega), _, _, rfl, rfl, (by rw [str_len, str_len]; exact sz (by show _ + (numS v).length ≤ 1000; omega)), ?_⟩
          refine ⟨p2, _, _, rfl, rfl, hP23, by rw [List.length_map, List.length_map]; exact szl (by omega), _, rfl, hS3.upd hp20, by rw [upd_ne p2r]; exact hR3, by rw [upd_ne p2p]; exact hP3, by rw [upd_ne (Ne.symm r2p2)]; exact hR23, ?_⟩
          rw [upd_same, show (" " : Str) ++ y ++ " " ++ Str.ofString (toString v) = endS f x y from ee, List.take_add_one, hy, List.filter_append, List.map_append, List.map_append]
          simp [hlt]
        · have hlt : ¬ sLt x y := hlt
          refine ⟨_, rfl, hS3, hR3, hP3, hR23, ?_⟩
          rw [hP23, List.take_add_one, hy, List.filter_append, List.map_append, List.map_append]
          simp [hlt]
      · obtain ⟨x4, rfl, hS3, hR3, hP3, hR23, hP23⟩ := pv
        rw [List.length_map, List.take_of_length_le (Nat.le_refl _)] at hP23
        have hxn := (hg.nm x hx).2.1
        have hyl := ysOf_len (f := f) x
        have hsum : (((ysOf f x).map (endS f x)).map (·.length)).sum ≤ 12 * 20 := by
          have := StrLaws.sumLen_le (B := 20) ((ysOf f x).map (endS f x)) (fun z hz => by obtain ⟨y, hy, rfl⟩ := List.mem_map.mp hz; exact hg.endlen hx (ysOf_mem hy).1)
          rw [List.length_map] at this
          have h2 : (ysOf f x).length * 20 ≤ 12 * 20 := Nat.mul_le_mul_right _ (by omega)
          omega
        have htl := hg.taillen hx
        have hi' : i < 12 := by
          have := (List.getElem?_eq_some_iff.mp hxx).1
          rw [sortS_len] at this
          omega
        refine ⟨_, rfl, .inl ⟨rfl, _, SqL.of hP3⟩, _, rfl, _, _, rfl, rfl, sz (by omega), rfl, _, rfl, _, p2, (ysOf f x).map (endS f x), rfl, rfl, SqL.of hP23, ?_, _, _, rfl, rfl, ?_, ?_⟩
        · rw [e2, List.length_map]; omega
        · rw [str_len]
          exact sz (by show _ + (tailS f x).length ≤ 1000; omega)
        refine ⟨p, _, _, rfl, rfl, hP3, by rw [List.length_map, List.length_map, List.length_take]; exact szl (by omega), _, _, _, rfl, hS3.upd hp, by rw [upd_ne (Ne.symm pr)]; exact hR3, ?_⟩
        rw [upd_same, List.take_add_one, hxx, List.map_append, List.map_append]; rfl
    · obtain ⟨x2, x3, x4, rfl, hS, hR, hP⟩ := pv
      rw [List.length_map, List.take_of_length_le (Nat.le_refl _)] at hP
      refine ⟨rfl, _, rfl, _, p, (sortS ks).map (rowS f), rfl, rfl, SqL.of hP, ?_, q _ hS⟩
      have h1 := StrLaws.sumLen_le (B := 261) ((sortS ks).map (rowS f)) (fun z hz => by obtain ⟨y, hy, rfl⟩ := List.mem_map.mp hz; exact hg.rowlen (mem_sortS.mp hy))
      rw [List.length_map, sortS_len] at h1
      rw [e3, List.length_map, sortS_len]
      have h2 : ks.length * 261 ≤ 12 * 261 := Nat.mul_le_mul_right _ (by omega)
      omega
def sp_turned : Sp := fun vs H Q _ => ∃ (a : Addr) (bs : Outer) (f : Str → L2.Row), vs = [.ref a] ∧ NetR H a bs f ∧ bs.length ≤ 1000 ∧ (∀ x ∈ bs.map (·.1), ((f x).map (·.1)).Nodup ∧ (f x).length ≤ 1000) ∧ ∀ (p : Addr) (H' : Hp) (cs' : Outer) (g : Str → L2.Row), Same H H' → NetAt H' p cs' g → cs'.map (·.1) = (bs.map (·.1)).reverse → New H p cs' → (∀ x ∈ bs.map (·.1), g x = (f x).reverse) → Q (.ref p) H'
theorem ok_l_turned (T : Txt K mg t) : FnOk P w K mg base CX0 1 t.l_turned t.fd_l_turned ["_law_net_here"] sp_turned := by
  refine T.f_l_turned.fn.ok sc_l_turned (fun vs H Q E h => ?_) (fun cdv A outer s H vs Q E hr h => ?_)
  · obtain ⟨a, bs, f, rfl, _⟩ := h; rfl
  · obtain ⟨a, bs, f, rfl, hN, hbl, hrow, q⟩ := h
    have hu := hu_of hr
    have hknd := hN.ks
    refine ⟨_, (pss_cons (ps_set (i := 1) sc_l_turned.nd rfl (Or.inl rfl) pe_dnewK)
      (pss_cons (ps_for PassesOwn.never rfl (pi_revL rfl T.b_reversed (pa_cons (pe_callTy call_listD (by rfl) T.b_list boot_ty_list (pa_cons (pv 0) pa_nil)) pa_nil)) (pg_name (i := 2) sc_l_turned.nd rfl (Or.inl rfl))
        (pss_cons (ps_dput hu (pv 1) (pv 2) pe_dnewK rfl)
      (pss_one (ps_for PassesOwn.never rfl (pi_revL rfl T.b_reversed (pa_cons (pe_callTy call_listD (by rfl) T.b_list boot_ty_list (pa_cons (pe_dget hu (pv 0) (pv 2) (fun _ _ => rfl)) pa_nil)) pa_nil)) (pg_name (i := 3) sc_l_turned.nd rfl (Or.inl rfl))
        (pss_one (ps_dput hu (pe_dget hu (pv 1) (pv 2) (fun _ _ => rfl)) (pv 3) (pe_dget hu (pe_dget hu (pv 0) (pv 2) (fun _ _ => rfl)) (pv 3) (fun _ _ => rfl)) rfl))))))
      (pss_one (ps_ret (pv 1))))), ?_⟩
    intro p hp
    have S0 := Same.updN (o := .dK []) hp
    refine ⟨_, rfl, rfl, a, _, rfl, (hN.sm S0.sm).out, fun r hr' => ⟨r, _, rfl, SqL.of upd_same, ?_⟩⟩
    rw [encO_keys]
    generalize hks : bs.map (·.1) = ks at hrow q hknd
    have hkl : ks.length ≤ 1000 := by rw [← hks, List.length_map]; exact hbl
    have S1 := S0.trans (Same.updN (o := .lst (ks.map V.str)) hr')
    have pr : p ≠ r := fun e => by rw [← e, upd_same] at hr'; cases hr'
    refine for_rev (xs := ks.map V.str) (fun i σ H2 => ∃ x2 x3 cs' g, σ = [some (.ref a), some (.ref p), x2, x3] ∧ Same H H2 ∧ H2 r = some (.lst (ks.map V.str)) ∧ NetAt H2 p cs' g ∧ cs'.map (·.1) = ks.reverse.take i ∧ New H p cs' ∧ (∀ x ∈ ks.reverse.take i, g x = (f x).reverse) ∧ ∀ x, x ∉ ks.reverse.take i → g x = []) ?_ (fun i σ H2 hi pv => ?_) (fun i z σ H2 hz pv => ?_) (fun σ H2 pv => ?_)
    · refine ⟨_, _, [], fun _ => [], rfl, S1, upd_same, ⟨by rw [upd_ne pr, upd_same]; rfl, fun _ h => absurd h (by simp), List.nodup_nil, by simp⟩, rfl, ⟨hp, fun _ h => absurd h (by simp)⟩, fun x hx => absurd hx (by simp), fun _ _ => rfl⟩
    · obtain ⟨_, _, _, _, rfl, _, hR, _⟩ := pv
      exact SqL.of hR
    · obtain ⟨x2, x3, cs', g, rfl, hS, hR, hA, hcs, hnew, hg1, hg2⟩ := pv
      rw [← List.map_reverse, List.getElem?_map] at hz
      cases hk : ks.reverse[i]? with
      | none => rw [hk] at hz; cases hz
      | some k =>
      rw [hk] at hz
      cases hz
      have hkm : k ∈ ks := List.mem_reverse.mp (List.mem_of_getElem? hk)
      have hknew := nodup_take (nd_rev hknd) hk
      have hi' : i < ks.length := by
        have := (List.getElem?_eq_some_iff.mp hk).1
        rw [List.length_reverse] at this; exact this
      have hcl : cs'.length ≤ 1000 := by
        have := congrArg List.length hcs
        rw [List.length_map, List.length_take, List.length_reverse] at this
        omega
      obtain ⟨hfnd, hfl⟩ := hrow k hkm
      intro r2 hr2
      obtain ⟨d1, d2⟩ := hA.add (x := k) (by rw [hcs]; exact hknew) hr2 (szl hcl) (hg2 k hknew)
      refine ⟨_, rfl, _, rfl, p, _, rfl, d1, ?_⟩
      have hSa : Same H (upd (upd H2 r2 (.dK [])) p (.dK (encO (cs' ++ [(k, r2)])))) := (hS.trans (Same.updN hr2)).upd hp
      have hRa : (upd (upd H2 r2 (.dK [])) p (.dK (encO (cs' ++ [(k, r2)])))) r = some (.lst (ks.map V.str)) := by
        rw [upd_ne (Ne.symm pr), upd_ne (ne_of_none hR hr2)]; exact hR
      have hnewa : New H p (cs' ++ [(k, r2)]) := ⟨hnew.1, fun z hz => by
        rcases List.mem_append.mp hz with c | c
        · exact hnew.2 z c
        · rw [List.mem_singleton.mp c]; exact hS.free hr2⟩
      generalize upd (upd H2 r2 (.dK [])) p (.dK (encO (cs' ++ [(k, r2)]))) = Ha at d1 d2 hSa hRa
      have hNa := hN.sm hSa.sm
      obtain ⟨b, hb⟩ := addrOf_some (bs := bs) (x := k) (hks ▸ hkm)
      refine ⟨_, rfl, _, rfl, a, .ref b, rfl, hNa.dget hb, rfl, b, _, rfl, hNa.inn _ (addrOf_mem hb), fun r3 hr3 => ⟨r3, _, rfl, SqL.of upd_same, ?_⟩⟩
      rw [encI_keys]
      have r3r : r ≠ r3 := ne_of_none hRa hr3
      have hk2 : addrOf (cs' ++ [(k, r2)]) k = some r2 := mem_addrOf d2.ks (by simp)
      refine for_rev (xs := ((f k).map (·.1)).map V.str) (fun j σ H3 => ∃ x3 g', σ = [some (.ref a), some (.ref p), some (.str k), x3] ∧ Same H H3 ∧ H3 r = some (.lst (ks.map V.str)) ∧ H3 r3 = some (.lst (((f k).map (·.1)).map V.str)) ∧ NetAt H3 p (cs' ++ [(k, r2)]) g' ∧ g' k = (f k).reverse.take j ∧ ∀ x, x ≠ k → g' x = g x) ?_ (fun j σ H3 hj pv => ?_) (fun j z σ H3 hz pv => ?_) (fun σ H3 pv => ?_)
      · exact ⟨_, g, rfl, hSa.trans (Same.updN hr3), by rw [upd_ne r3r]; exact hRa, upd_same, d2.same (Same.updN hr3), by rw [hg2 k hknew]; rfl, fun _ _ => rfl⟩
      · obtain ⟨_, _, rfl, _, _, hR3, _⟩ := pv
        exact SqL.of hR3
      · obtain ⟨x3, g', rfl, hS3, hR1, hR3, hA3, hgk, hgo⟩ := pv
        rw [← List.map_reverse, List.getElem?_map, ← List.map_reverse, List.getElem?_map] at hz
        cases he : (f k).reverse[j]? with
        | none => rw [he] at hz; cases hz
        | some e =>
        rw [he] at hz
        cases hz
        obtain ⟨y, v⟩ := e
        have hem : (y, v) ∈ f k := List.mem_reverse.mp (List.mem_of_getElem? he)
        have hv : look (f k) y = some v := mem_look hfnd hem
        have hno : look (g' k) y = none := by
          rw [hgk]
          refine look_none.mpr fun hm => ?_
          rw [List.map_take] at hm
          have h1 : ((f k).reverse.map (·.1))[j]? = some y := by rw [List.getElem?_map, he]; rfl
          refine nodup_take ?_ h1 hm
          rw [List.map_reverse]; exact nd_rev hfnd
        have hN3 := hN.sm hS3.sm
        have hl : (g' k).length < sizeLine := by rw [hgk, List.length_take, List.length_reverse]; exact szl (by omega)
        obtain ⟨p1, p2⟩ := hA3.put hk2 v y hl
        refine ⟨_, rfl, _, rfl, a, _, rfl, hN3.dget hb, _, rfl, b, _, rfl, hN3.rget' hb hv, _, rfl, _, rfl, p, _, rfl, hA3.r.dget hk2, _, rfl, r2, _, rfl, p1, ?_⟩
        refine ⟨_, _, rfl, Same.netput hS3 hnewa hk2, ?_, ?_, p2, ?_, fun x hx => by rw [putR_ne hx]; exact hgo x hx⟩
        · rw [upd_ne (ne_of hR1 (hA3.inn _ (addrOf_mem hk2)) (by intro z; cases z))]; exact hR1
        · rw [upd_ne (ne_of hR3 (hA3.inn _ (addrOf_mem hk2)) (by intro z; cases z))]; exact hR3
        · rw [putR_at, put_new hno, hgk, List.take_add_one, he]; rfl
      · obtain ⟨x3, g', rfl, hS3, hR1, hR3, hA3, hgk, hgo⟩ := pv
        have hlen : (((f k).map (·.1)).map V.str).length = (f k).reverse.length := by simp
        rw [hlen, List.take_of_length_le (Nat.le_refl _)] at hgk
        refine ⟨_, _, cs' ++ [(k, r2)], g', rfl, hS3, hR1, hA3, ?_, hnewa, fun x hx => ?_, fun x hx => ?_⟩
        · rw [List.map_append, hcs, List.take_add_one, hk]; rfl
        · by_cases c : x = k
          · rw [c]; exact hgk
          · rw [hgo x c]
            refine hg1 x ?_
            rw [List.take_add_one, hk] at hx
            rcases List.mem_append.mp hx with m | m
            · exact m
            · exact absurd (by simpa using m) c
        · rw [List.take_add_one, hk] at hx
          have c : x ≠ k := fun e => hx (List.mem_append_right _ (by simp [e]))
          rw [hgo x c]
          exact hg2 x fun m => hx (List.mem_append_left _ m)
    · obtain ⟨x2, x3, cs', g, rfl, hS, hR, hA, hcs, hnew, hg1, hg2⟩ := pv
      rw [List.length_map] at hcs hg1
      have e0 : ks.reverse.take ks.length = ks.reverse := List.take_of_length_le (by rw [List.length_reverse]; exact Nat.le_refl _)
      rw [e0] at hcs hg1
      exact ⟨_, rfl, q p H2 cs' g hS hA hcs hnew fun x hx => hg1 x (List.mem_reverse.mpr hx)⟩
end
end K06

set_option Elab.async false
set_option linter.all false
set_option maxRecDepth 100000
set_option maxHeartbeats 4000000
namespace K06
open PySem L2 PySem.Spec PyProof.Rows
section
variable {P : Program} {w : World} {K : PySem.W.Frag} {mg : Str → Option Value} {base : Heap} {t : Adr}
def sp_law (K : PySem.W.Frag) : Sp := fun vs H Q _ => ∃ (a : Addr) (ns : List Int), vs = [.ref a] ∧ SqL K H a (ns.map V.int) ∧ ∀ H', Q (.bl true) H'
theorem ok_law (T : Txt K mg t) : FnOk P w K mg base CX0 7 t.law t.fd_law ["_law_script"] (sp_law K) := by
  refine T.f_law.fn.ok sc_law (fun vs H Q E h => ?_) (fun cdv A outer s H vs Q E hr h => ?_)
  · obtain ⟨a, ns, rfl, _⟩ := h; rfl
  · obtain ⟨a, ns, rfl, hA, q⟩ := h
    have hu := hu_of hr
    have hu8 : (A.deeper _).units + 8 < cLine := Nat.lt_of_le_of_lt (Nat.add_le_add_left (by decide : 8 ≤ 64) _) hr.units
    refine ⟨_, (pss_cons (ps_set (i := 1) sc_law.nd rfl (Or.inl rfl) (pe_call (ok_l_names T) (hr.mono (by decide)) rfl T.f_l_names.mg T.f_l_names.kp T.f_l_names.bd .nil pass0 (pa_cons (pe_call (ok_l_cell_at T) (hr.mono (by decide)) rfl T.f_l_cell_at.mg T.f_l_cell_at.kp T.f_l_cell_at.bd .nil pass0 (pa_cons (pv 0) (pa_cons pe_int pa_nil))) (pa_cons (pe_op op_mod (pe_call (ok_l_cell_at T) (hr.mono (by decide)) rfl T.f_l_cell_at.mg T.f_l_cell_at.kp T.f_l_cell_at.bd .nil pass0 (pa_cons (pv 0) (pa_cons pe_int pa_nil))) pe_int) pa_nil))))
      (pss_cons (ps_set (i := 2) sc_law.nd rfl (Or.inl rfl) (pe_call (ok_l_net T) (hr.mono (by decide)) rfl T.f_l_net.mg T.f_l_net.kp T.f_l_net.bd .nil pass0 (pa_cons (pv 0) (pa_cons (pv 1) (pa_cons (pe_op op_pow pe_int pe_int) pa_nil)))))
      (pss_cons (ps_set (i := 3) sc_law.nd rfl (Or.inl rfl) (pe_call (ok_l_written T) (hr.mono (by decide)) rfl T.f_l_written.mg T.f_l_written.kp T.f_l_written.bd .nil pass0 (pa_cons (pv 2) pa_nil)))
      (pss_cons (ps_set (i := 4) sc_law.nd rfl (Or.inl rfl) (pe_call (ok_l_turned T) (hr.mono (by decide)) rfl T.f_l_turned.mg T.f_l_turned.kp T.f_l_turned.bd .nil pass0 (pa_cons (pv 2) pa_nil)))
      (pss_cons (ps_if (PW.pt (pw_or (pt_cmpR op_ne (pe_call (ok_show_net T) (hr.mono (by decide)) rfl T.f_show_net.mg T.f_show_net.kp T.f_show_net.bd .nil pass0 (pa_cons (pv 2) pa_nil)) (pv 3) (nomark _)) (pw_or (pt_cmpR op_ne (pe_call (ok_show_net T) (hr.mono (by decide)) rfl T.f_show_net.mg T.f_show_net.kp T.f_show_net.bd .nil pass0 (pa_cons (pv 4) pa_nil)) (pv 3) (nomark _)) (pw_or1 (pt_cmpR (op_neD hu8) (pv 4) (pv 2) (nomark _))))))
        (pss_one (ps_ret pe_bl))
        pss_nil)
      (pss_cons (ps_set (i := 5) sc_law.nd rfl (Or.inl rfl) (pe_call (ok_read_net T) (hr.mono (by decide)) rfl T.f_read_net.mg T.f_read_net.kp T.f_read_net.bd .nil pass0 (pa_cons (pv 3) pa_nil)))
      (pss_cons (ps_if (PW.pt (pw_or (pt_cmpR (op_neD hu8) (pv 5) (pv 2) (nomark _)) (pw_or (pt_not (pt_val (pe_call (ok_l_numbers T) (hr.mono (by decide)) rfl T.f_l_numbers.mg T.f_l_numbers.kp T.f_l_numbers.bd .nil pass0 (pa_cons (pv 5) pa_nil)))) (pw_or1 (pt_cmpR op_ne (pe_call (ok_show_net T) (hr.mono (by decide)) rfl T.f_show_net.mg T.f_show_net.kp T.f_show_net.bd .nil pass0 (pa_cons (pv 5) pa_nil)) (pv 3) (nomark _))))))
        (pss_one (ps_ret pe_bl))
        pss_nil)
      (pss_cons (ps_forD PassesOwn.never rfl (pv 5) (pg_name (i := 6) sc_law.nd rfl (Or.inl rfl))
        (pss_one (ps_expr (pe_bm0 PySem.F.plainAttrs_dict PySem.F.slot_dict_clear PySem.F.type_dict_clear mt_clearD (pe_dget hu (pv 5) (pv 6) (fun _ _ => rfl))))))
      (pss_cons (ps_expr (pe_bm0 PySem.F.plainAttrs_dict PySem.F.slot_dict_clear PySem.F.type_dict_clear mt_clearD (pv 5)))
      (pss_one (ps_ret (pe_cmpR (op_eqD hu8) (pe_call (ok_read_net T) (hr.mono (by decide)) rfl T.f_read_net.mg T.f_read_net.kp T.f_read_net.bd .nil pass0 (pa_cons (pv 3) pa_nil)) (pv 2) (nomark _))))))))))))), ?_⟩
    have c1 := Int.emod_nonneg (ns.getD (0 : Int).toNat 0) (show (13 : Int) ≠ 0 by decide)
    have c2 := Int.emod_lt_of_pos (ns.getD (0 : Int).toNat 0) (show (0 : Int) < 13 by decide)
    refine ⟨_, rfl, a, ns, 1, rfl, by decide, hA, _, rfl, a, ns, 0, rfl, by decide, hA, _, _, rfl, rfl, (by show (0 : Int) < 13; decide), _, _, rfl, c1, by omega, fun b H1 ks S1 hb1 hb2 hkl hnd hnm => ?_⟩
    have hkl : ks.length ≤ 12 := by omega
    have hBv : (10 : Int) ^ (9 : Int).toNat = 1000000000 := by decide
    refine ⟨_, rfl, _, rfl, _, _, rfl, rfl, ⟨by decide, by decide, by decide⟩, a, b, ns, ks, _, rfl, S1.seq hA, SqL.of hb2, hnd, hkl, (by decide), (by decide), fun p Hn hNS => ?_⟩
    obtain ⟨bs, f, S2, hN, hbs, hnew, hgn⟩ := hNS
    rw [hBv] at hgn
    have hg : GT (bs.map (·.1)) f := by rw [hbs]; exact ⟨hgn, hnm, hkl, hnd⟩
    clear S1 S2 hb1 hb2 hnew hnd hnm hkl hgn hbs
    generalize hks : bs.map (·.1) = kk at hg
    refine ⟨_, rfl, p, bs, f, rfl, hN.r, hks ▸ hg, fun H1 S1 => ?_⟩
    rw [hks]
    have hrows : ∀ x ∈ kk, ((f x).map (·.1)).Nodup ∧ (f x).length ≤ 1000 := fun x hx => ⟨hg.g.nd x hx, by have := hg.row hx; omega⟩
    have hbl : bs.length ≤ 1000 := by have h1 := hg.len; have h2 := congrArg List.length hks; rw [List.length_map] at h2; omega
    refine ⟨_, rfl, p, bs, f, rfl, (hN.same S1).r, hbl, hks ▸ hrows, fun pt H2 ct gt S2 hNt hct hnewt hgt => ?_⟩
    rw [hks] at hct hgt
    have T2 := S1.trans S2
    have hpt : (ct.map (·.1)).Perm kk := by rw [hct]; exact List.reverse_perm kk
    have hlt : ∀ x ∈ ct.map (·.1), ∀ y, look (gt x) y = look (f x) y := fun x hx y => by
      have hx' := hpt.mem_iff.mp hx
      rw [hgt x hx']
      exact (look_perm (List.reverse_perm (f x)).symm (hg.g.nd x hx') y).symm
    have hndt : ∀ x ∈ ct.map (·.1), ((gt x).map (·.1)).Nodup := fun x hx => by
      have hx' := hpt.mem_iff.mp hx
      rw [hgt x hx', List.map_reverse]
      exact nd_rev (hg.g.nd x hx')
    have hgt2 := hg.of_same hpt hndt hlt
    have ett : netS (ct.map (·.1)) gt = netS kk f := netS_congr hpt (fun x hx => hg.g.nd x hx) (fun x hx => hndt x (hpt.mem_iff.mpr hx)) (fun x hx y => hlt x (hpt.mem_iff.mpr hx) y)
    have rn : ∀ {H9 : Hp}, Same Hn H9 → Rep K H9 (.ref p) (netD kk f) := fun h => by have := (hN.same h).r.rep (K := K); rw [hks] at this; exact this
    have dt : DEq (netD (ct.map (·.1)) gt) (netD kk f) := netD_deq hpt hndt (fun x hx => hg.g.nd x hx) fun x hx k => hlt x hx k
    have dep8 : ∀ (l : List Str) (g : Str → L2.Row), (netD l g).dep ≤ 8 := fun l g => Nat.le_trans (netD_dep _ _) (by decide)
    refine ⟨_, rfl, p, bs, f, rfl, (hN.same T2).r, hks ▸ hg, fun H3 S3 => ⟨_, rfl, rfl, _, rfl, iteNS (by rw [hks]) ⟨_, rfl, pt, ct, gt, rfl, (hNt.same S3).r, hgt2, fun H4 S4 => ⟨_, rfl, rfl, _, rfl, iteNS (by rw [ett]) ⟨_, rfl, _, rfl, pt, p, _, _, rfl, rfl, ((hNt.same S3).same S4).r.rep, rn ((T2.trans S3).trans S4), dt, dep8 _ _, _, rfl, iteF ?_⟩⟩⟩⟩⟩
    have T4 := (T2.trans S3).trans S4
    refine ⟨_, rfl, kk, f, rfl, hg, fun pf H5 g bf S5 hNf hpf hnewf hgf hlf => ?_⟩
    have T5 := T4.trans S5
    have df : DEq (netD (bf.map (·.1)) g) (netD kk f) := netD_deq hpf (fun x hx => hgf.g.nd x hx) (fun x hx => hg.g.nd x hx) fun x hx k => hlf x hx k
    have eff : netS (bf.map (·.1)) g = netS kk f := netS_congr hpf (fun x hx => hg.g.nd x hx) (fun x hx => hgf.g.nd x (hpf.mem_iff.mpr hx)) (fun x hx y => hlf x (hpf.mem_iff.mpr hx) y)
    refine ⟨_, rfl, _, rfl, pf, p, _, _, rfl, rfl, hNf.r.rep, rn T5, df, dep8 _ _, _, rfl, iteF ⟨_, rfl, pf, bf, g, rfl, hNf.r, fun H6 S6 => ⟨_, rfl, iteF ⟨_, rfl, pf, bf, g, rfl, (hNf.same S6).r, hgf, fun H7 S7 => ⟨_, rfl, rfl, _, rfl, iteNS (by rw [eff]) ?_⟩⟩⟩⟩⟩
    have hN7 := (hNf.same S6).same S7
    have T7 := (T5.trans S6).trans S7
    have f7 : Hn pf = none := T4.free hnewf.1
    have fb : ∀ z ∈ bf, Hn z.2 = none := fun z hz => T4.free (hnewf.2 z hz)
    refine ⟨_, rfl, pf, _, rfl, .inl hN7.out, fun o H12 fz => forDm hN7.out fz (fun _ σ H => ∃ x6, σ = [some (.ref a), some (.ref b), some (.ref p), some (.str (netS kk f)), some (.ref pt), some (.ref pf), x6] ∧ Same Hn H ∧ H pf = some (.frz o (.dK (encO bf))) ∧ ∀ z ∈ bf, ∃ l, H z.2 = some (.dK l)) (fun e => ?_) (fun _ _ _ h => ?_) (fun j k v σ H13 hk pv => ?_) (fun σ H13 pv => ?_)⟩
    · subst e
      refine ⟨_, rfl, T7.upd f7, upd_same, fun z hz => ⟨encI (g z.1), ?_⟩⟩
      rw [upd_ne (hN7.ne (mem_addrOf hN7.ks (x := z.1) (b := z.2) hz))]
      exact hN7.inn z hz
    · obtain ⟨_, _, _, h, _⟩ := h; exact h
    · obtain ⟨x6, rfl, S13, h7, hall⟩ := pv
      obtain ⟨z, hz, rfl, rfl⟩ := encO_get hk
      have had := mem_addrOf hN7.ks (x := z.1) (b := z.2) hz
      obtain ⟨l, hl⟩ := hall z hz
      refine ⟨_, rfl, _, rfl, pf, .ref z.2, rfl, .inl ⟨encO bf, Sum.inr z.1, .inr ⟨o, h7⟩, rfl, by rw [valV_encO, had]; rfl⟩, .inr (.inr (.inl ⟨rfl, .inl ⟨_, hl⟩⟩)), z.2, _, rfl, rfl, hl, _, rfl, S13.upd (fb z hz), ?_, fun y hy => ?_⟩
      · rw [upd_ne (Ne.symm (hN7.ne had))]; exact h7
      · by_cases e : y.2 = z.2
        · exact ⟨[], by rw [e, upd_same]⟩
        · obtain ⟨l', hl'⟩ := hall y hy
          exact ⟨l', by rw [upd_ne e]; exact hl'⟩
    · obtain ⟨x6, rfl, S13, h7, hall⟩ := pv
      refine ⟨_, rfl, .inr (.inr (.inl ⟨rfl, .inl ⟨_, upd_same⟩⟩)), pf, _, rfl, rfl, upd_same, ?_⟩
      have S14 := (S13.upd (o := .dK (encO bf)) f7).upd (o := .dK []) f7
      refine ⟨_, rfl, kk, f, rfl, hg, fun pf2 H15 g2 bf2 S15 hNf2 hpf2 hnewf2 hgf2 hlf2 => ?_⟩
      have df2 : DEq (netD (bf2.map (·.1)) g2) (netD kk f) := netD_deq hpf2 (fun x hx => hgf2.g.nd x hx) (fun x hx => hg.g.nd x hx) fun x hx k => hlf2 x hx k
      exact ⟨_, rfl, pf2, p, _, _, rfl, rfl, hNf2.r.rep, rn (S14.trans S15), df2, dep8 _ _, q _⟩
end
end K06

set_option Elab.async false
set_option linter.all false
open PySem PySem.W PyProof.Rows
set_option maxRecDepth 100000 in
set_option maxHeartbeats 0 in
theorem PySem.Challenge.cw_spareline_k06_nets_shown_and_read_holds : PySem.Challenge.rw_spareline_k06_nets_shown_and_read.Holds := by
  w_on; o_law; k_head; (case hw => w_witness2)
  k_fill
  refine L2.walk_ofK (l := PySem.Challenge.rw_spareline_k06_nets_shown_and_read) (n := 63) (k := 7) (x := "_law_script") (CX := L2.CX0) (sp := K06.sp_law) rfl (by decide) rfl ⟨rfl, by decide, by decide⟩ (fun w h Y => PySem.W.kIn_of Y) ?F ?S ?C
  case F =>
    intro w mg fa h KX G hmg
    have h_is_name : ∃ (f : Addr) (fd : FuncData), L2.Top (L2.KOf KX) mg "is_name" K06.s_is_name ["thing"] f fd := by
      dsimp only [L2.KOf]
      refine' ⟨_, _, L2.top_mk (st := K06.s_is_name) KX G ?a ?l ?c ?k (fun _ _ _ _ _ _ us hl => match us, hl with | [_], _ => rfl)⟩
      (case a => k_is); (case l => k_is); (case c => k_is); (case k => k_is)
    have h_is_strength : ∃ (f : Addr) (fd : FuncData), L2.Top (L2.KOf KX) mg "is_strength" K06.s_is_strength ["thing"] f fd := by
      dsimp only [L2.KOf]
      refine' ⟨_, _, L2.top_mk (st := K06.s_is_strength) KX G ?a ?l ?c ?k (fun _ _ _ _ _ _ us hl => match us, hl with | [_], _ => rfl)⟩
      (case a => k_is); (case l => k_is); (case c => k_is); (case k => k_is)
    have h_number_of : ∃ (f : Addr) (fd : FuncData), L2.Top (L2.KOf KX) mg "number_of" K06.s_number_of ["text"] f fd := by
      dsimp only [L2.KOf]
      refine' ⟨_, _, L2.top_mk (st := K06.s_number_of) KX G ?a ?l ?c ?k (fun _ _ _ _ _ _ us hl => match us, hl with | [_], _ => rfl)⟩
      (case a => k_is); (case l => k_is); (case c => k_is); (case k => k_is)
    have h_is_written_number : ∃ (f : Addr) (fd : FuncData), L2.Top (L2.KOf KX) mg "is_written_number" K06.s_is_written_number ["thing"] f fd := by
      dsimp only [L2.KOf]
      refine' ⟨_, _, L2.top_mk (st := K06.s_is_written_number) KX G ?a ?l ?c ?k (fun _ _ _ _ _ _ us hl => match us, hl with | [_], _ => rfl)⟩
      (case a => k_is); (case l => k_is); (case c => k_is); (case k => k_is)
    have h_is_made_of : ∃ (f : Addr) (fd : FuncData), L2.Top (L2.KOf KX) mg "is_made_of" K06.s_is_made_of ["text", "signs"] f fd := by
      dsimp only [L2.KOf]
      refine' ⟨_, _, L2.top_mk (st := K06.s_is_made_of) KX G ?a ?l ?c ?k (fun _ _ _ _ _ _ us hl => match us, hl with | [_, _], _ => rfl)⟩
      (case a => k_is); (case l => k_is); (case c => k_is); (case k => k_is)
    have h_made_net : ∃ (f : Addr) (fd : FuncData), L2.Top (L2.KOf KX) mg "made_net" K06.s_made_net ["places", "lines"] f fd := by
      dsimp only [L2.KOf]
      refine' ⟨_, _, L2.top_mk (st := K06.s_made_net) KX G ?a ?l ?c ?k (fun _ _ _ _ _ _ us hl => match us, hl with | [_, _], _ => rfl)⟩
      (case a => k_is); (case l => k_is); (case c => k_is); (case k => k_is)
    have h_net_of : ∃ (f : Addr) (fd : FuncData), L2.Top (L2.KOf KX) mg "net_of" K06.s_net_of ["places", "lines"] f fd := by
      dsimp only [L2.KOf]
      refine' ⟨_, _, L2.top_mk (st := K06.s_net_of) KX G ?a ?l ?c ?k (fun _ _ _ _ _ _ us hl => match us, hl with | [_, _], _ => rfl)⟩
      (case a => k_is); (case l => k_is); (case c => k_is); (case k => k_is)
    have h_join_line : ∃ (f : Addr) (fd : FuncData), L2.Top (L2.KOf KX) mg "join_line" K06.s_join_line ["net", "one", "other", "many"] f fd := by
      dsimp only [L2.KOf]
      refine' ⟨_, _, L2.top_mk (st := K06.s_join_line) KX G ?a ?l ?c ?k (fun _ _ _ _ _ _ us hl => match us, hl with | [_, _, _, _], _ => rfl)⟩
      (case a => k_is); (case l => k_is); (case c => k_is); (case k => k_is)
    have h_check_places : ∃ (f : Addr) (fd : FuncData), L2.Top (L2.KOf KX) mg "check_places" K06.s_check_places ["places"] f fd := by
      dsimp only [L2.KOf]
      refine' ⟨_, _, L2.top_mk (st := K06.s_check_places) KX G ?a ?l ?c ?k (fun _ _ _ _ _ _ us hl => match us, hl with | [_], _ => rfl)⟩
      (case a => k_is); (case l => k_is); (case c => k_is); (case k => k_is)
    have h_check_two : ∃ (f : Addr) (fd : FuncData), L2.Top (L2.KOf KX) mg "check_two" K06.s_check_two ["net", "one", "other"] f fd := by
      dsimp only [L2.KOf]
      refine' ⟨_, _, L2.top_mk (st := K06.s_check_two) KX G ?a ?l ?c ?k (fun _ _ _ _ _ _ us hl => match us, hl with | [_, _, _], _ => rfl)⟩
      (case a => k_is); (case l => k_is); (case c => k_is); (case k => k_is)
    have h_check_line : ∃ (f : Addr) (fd : FuncData), L2.Top (L2.KOf KX) mg "check_line" K06.s_check_line ["net", "one", "other", "strength"] f fd := by
      dsimp only [L2.KOf]
      refine' ⟨_, _, L2.top_mk (st := K06.s_check_line) KX G ?a ?l ?c ?k (fun _ _ _ _ _ _ us hl => match us, hl with | [_, _, _, _], _ => rfl)⟩
      (case a => k_is); (case l => k_is); (case c => k_is); (case k => k_is)
    have h_has_place : ∃ (f : Addr) (fd : FuncData), L2.Top (L2.KOf KX) mg "has_place" K06.s_has_place ["net", "thing"] f fd := by
      dsimp only [L2.KOf]
      refine' ⟨_, _, L2.top_mk (st := K06.s_has_place) KX G ?a ?l ?c ?k (fun _ _ _ _ _ _ us hl => match us, hl with | [_, _], _ => rfl)⟩
      (case a => k_is); (case l => k_is); (case c => k_is); (case k => k_is)
    have h_show_net : ∃ (f : Addr) (fd : FuncData), L2.Top (L2.KOf KX) mg "show_net" K06.s_show_net ["net"] f fd := by
      dsimp only [L2.KOf]
      refine' ⟨_, _, L2.top_mk (st := K06.s_show_net) KX G ?a ?l ?c ?k (fun _ _ _ _ _ _ us hl => match us, hl with | [_], _ => rfl)⟩
      (case a => k_is); (case l => k_is); (case c => k_is); (case k => k_is)
    have h_read_net : ∃ (f : Addr) (fd : FuncData), L2.Top (L2.KOf KX) mg "read_net" K06.s_read_net ["text"] f fd := by
      dsimp only [L2.KOf]
      refine' ⟨_, _, L2.top_mk (st := K06.s_read_net) KX G ?a ?l ?c ?k (fun _ _ _ _ _ _ us hl => match us, hl with | [_], _ => rfl)⟩
      (case a => k_is); (case l => k_is); (case c => k_is); (case k => k_is)
    have h_shown_row : ∃ (f : Addr) (fd : FuncData), L2.Top (L2.KOf KX) mg "shown_row" K06.s_shown_row ["net", "place"] f fd := by
      dsimp only [L2.KOf]
      refine' ⟨_, _, L2.top_mk (st := K06.s_shown_row) KX G ?a ?l ?c ?k (fun _ _ _ _ _ _ us hl => match us, hl with | [_, _], _ => rfl)⟩
      (case a => k_is); (case l => k_is); (case c => k_is); (case k => k_is)
    have h_told_net : ∃ (f : Addr) (fd : FuncData), L2.Top (L2.KOf KX) mg "told_net" K06.s_told_net ["text"] f fd := by
      dsimp only [L2.KOf]
      refine' ⟨_, _, L2.top_mk (st := K06.s_told_net) KX G ?a ?l ?c ?k (fun _ _ _ _ _ _ us hl => match us, hl with | [_], _ => rfl)⟩
      (case a => k_is); (case l => k_is); (case c => k_is); (case k => k_is)
    have h_told_rows : ∃ (f : Addr) (fd : FuncData), L2.Top (L2.KOf KX) mg "told_rows" K06.s_told_rows ["text"] f fd := by
      dsimp only [L2.KOf]
      refine' ⟨_, _, L2.top_mk (st := K06.s_told_rows) KX G ?a ?l ?c ?k (fun _ _ _ _ _ _ us hl => match us, hl with | [_], _ => rfl)⟩
      (case a => k_is); (case l => k_is); (case c => k_is); (case k => k_is)
    have h_told_lines : ∃ (f : Addr) (fd : FuncData), L2.Top (L2.KOf KX) mg "told_lines" K06.s_told_lines ["place", "told"] f fd := by
      dsimp only [L2.KOf]
      refine' ⟨_, _, L2.top_mk (st := K06.s_told_lines) KX G ?a ?l ?c ?k (fun _ _ _ _ _ _ us hl => match us, hl with | [_, _], _ => rfl)⟩
      (case a => k_is); (case l => k_is); (case c => k_is); (case k => k_is)
    have h_l_cell_at : ∃ (f : Addr) (fd : FuncData), L2.Top (L2.KOf KX) mg "_law_cell_at" K06.s_l_cell_at ["_law_script", "_law_k"] f fd := by
      dsimp only [L2.KOf]
      refine' ⟨_, _, L2.top_mk (st := K06.s_l_cell_at) KX G ?a ?l ?c ?k (fun _ _ _ _ _ _ us hl => match us, hl with | [_, _], _ => rfl)⟩
      (case a => k_is); (case l => k_is); (case c => k_is); (case k => k_is)
    have h_l_mix : ∃ (f : Addr) (fd : FuncData), L2.Top (L2.KOf KX) mg "_law_mix" K06.s_l_mix ["_law_cell", "_law_k"] f fd := by
      dsimp only [L2.KOf]
      refine' ⟨_, _, L2.top_mk (st := K06.s_l_mix) KX G ?a ?l ?c ?k (fun _ _ _ _ _ _ us hl => match us, hl with | [_, _], _ => rfl)⟩
      (case a => k_is); (case l => k_is); (case c => k_is); (case k => k_is)
    have h_l_names : ∃ (f : Addr) (fd : FuncData), L2.Top (L2.KOf KX) mg "_law_names" K06.s_l_names ["_law_cell", "_law_many"] f fd := by
      dsimp only [L2.KOf]
      refine' ⟨_, _, L2.top_mk (st := K06.s_l_names) KX G ?a ?l ?c ?k (fun _ _ _ _ _ _ us hl => match us, hl with | [_, _], _ => rfl)⟩
      (case a => k_is); (case l => k_is); (case c => k_is); (case k => k_is)
    have h_l_net : ∃ (f : Addr) (fd : FuncData), L2.Top (L2.KOf KX) mg "_law_net" K06.s_l_net ["_law_script", "_law_names_here", "_law_bound"] f fd := by
      dsimp only [L2.KOf]
      refine' ⟨_, _, L2.top_mk (st := K06.s_l_net) KX G ?a ?l ?c ?k (fun _ _ _ _ _ _ us hl => match us, hl with | [_, _, _], _ => rfl)⟩
      (case a => k_is); (case l => k_is); (case c => k_is); (case k => k_is)
    have h_l_written : ∃ (f : Addr) (fd : FuncData), L2.Top (L2.KOf KX) mg "_law_written" K06.s_l_written ["_law_net_here"] f fd := by
      dsimp only [L2.KOf]
      refine' ⟨_, _, L2.top_mk (st := K06.s_l_written) KX G ?a ?l ?c ?k (fun _ _ _ _ _ _ us hl => match us, hl with | [_], _ => rfl)⟩
      (case a => k_is); (case l => k_is); (case c => k_is); (case k => k_is)
    have h_l_turned : ∃ (f : Addr) (fd : FuncData), L2.Top (L2.KOf KX) mg "_law_turned" K06.s_l_turned ["_law_net_here"] f fd := by
      dsimp only [L2.KOf]
      refine' ⟨_, _, L2.top_mk (st := K06.s_l_turned) KX G ?a ?l ?c ?k (fun _ _ _ _ _ _ us hl => match us, hl with | [_], _ => rfl)⟩
      (case a => k_is); (case l => k_is); (case c => k_is); (case k => k_is)
    have h_l_numbers : ∃ (f : Addr) (fd : FuncData), L2.Top (L2.KOf KX) mg "_law_numbers" K06.s_l_numbers ["_law_net_here"] f fd := by
      dsimp only [L2.KOf]
      refine' ⟨_, _, L2.top_mk (st := K06.s_l_numbers) KX G ?a ?l ?c ?k (fun _ _ _ _ _ _ us hl => match us, hl with | [_], _ => rfl)⟩
      (case a => k_is); (case l => k_is); (case c => k_is); (case k => k_is)
    have h_law : ∃ (f : Addr) (fd : FuncData), L2.Top (L2.KOf KX) mg "law" K06.s_law ["_law_script"] f fd ∧ ∀ (s : Shared) (u : Value), BindsTo s fd ⟨[u], []⟩ [("_law_script", u)] := by
      dsimp only [L2.KOf]
      refine' ⟨_, _, L2.top_mk (st := K06.s_law) KX G ?a ?l ?c ?k (fun _ _ _ _ _ _ us hl => match us, hl with | [_], _ => rfl), fun s u => .of_eq rfl⟩
      (case a => k_is); (case l => k_is); (case c => k_is); (case k => k_is)
    have b_all : PySem.W.nsIn (L2.KOf KX) mainGlobals "all" = some none := by
      dsimp only [L2.KOf]
      k_is
    have b_bool : PySem.W.nsIn (L2.KOf KX) mainGlobals "bool" = some none := by
      dsimp only [L2.KOf]
      k_is
    have b_int : PySem.W.nsIn (L2.KOf KX) mainGlobals "int" = some none := by
      dsimp only [L2.KOf]
      k_is
    have b_isinstance : PySem.W.nsIn (L2.KOf KX) mainGlobals "isinstance" = some none := by
      dsimp only [L2.KOf]
      k_is
    have b_len : PySem.W.nsIn (L2.KOf KX) mainGlobals "len" = some none := by
      dsimp only [L2.KOf]
      k_is
    have b_list : PySem.W.nsIn (L2.KOf KX) mainGlobals "list" = some none := by
      dsimp only [L2.KOf]
      k_is
    have b_max : PySem.W.nsIn (L2.KOf KX) mainGlobals "max" = some none := by
      dsimp only [L2.KOf]
      k_is
    have b_range : PySem.W.nsIn (L2.KOf KX) mainGlobals "range" = some none := by
      dsimp only [L2.KOf]
      k_is
    have b_reversed : PySem.W.nsIn (L2.KOf KX) mainGlobals "reversed" = some none := by
      dsimp only [L2.KOf]
      k_is
    have b_sorted : PySem.W.nsIn (L2.KOf KX) mainGlobals "sorted" = some none := by
      dsimp only [L2.KOf]
      k_is
    have b_str : PySem.W.nsIn (L2.KOf KX) mainGlobals "str" = some none := by
      dsimp only [L2.KOf]
      k_is
    have c_FIGURES : ∃ v : Value, PySem.W.nsIn (L2.KOf KX) mainGlobals "FIGURES" = some (some v) ∧ ∃ tk, v = .str "0123456789" tk := by
      dsimp only [L2.KOf]
      refine' L2.cst_mk (P := fun v => ∃ tk, v = .str "0123456789" tk) ?e ?f
      (case e => k_is); (case f => exact ⟨_, rfl⟩)
    have c_GREATEST_STRENGTH : ∃ v : Value, PySem.W.nsIn (L2.KOf KX) mainGlobals "GREATEST_STRENGTH" = some (some v) ∧ ∃ tk, v = .int 1000000000 tk := by
      dsimp only [L2.KOf]
      refine' L2.cst_mk (P := fun v => ∃ tk, v = .int 1000000000 tk) ?e ?f
      (case e => k_is); (case f => exact ⟨_, rfl⟩)
    have c_LETTERS : ∃ v : Value, PySem.W.nsIn (L2.KOf KX) mainGlobals "LETTERS" = some (some v) ∧ ∃ tk, v = .str "abcdefghijklmnopqrstuvwxyz" tk := by
      dsimp only [L2.KOf]
      refine' L2.cst_mk (P := fun v => ∃ tk, v = .str "abcdefghijklmnopqrstuvwxyz" tk) ?e ?f
      (case e => k_is); (case f => exact ⟨_, rfl⟩)
    have c_LONGEST_NAME : ∃ v : Value, PySem.W.nsIn (L2.KOf KX) mainGlobals "LONGEST_NAME" = some (some v) ∧ ∃ tk, v = .int 8 tk := by
      dsimp only [L2.KOf]
      refine' L2.cst_mk (P := fun v => ∃ tk, v = .int 8 tk) ?e ?f
      (case e => k_is); (case f => exact ⟨_, rfl⟩)
    have c_LONGEST_NUMBER : ∃ v : Value, PySem.W.nsIn (L2.KOf KX) mainGlobals "LONGEST_NUMBER" = some (some v) ∧ ∃ tk, v = .int 10 tk := by
      dsimp only [L2.KOf]
      refine' L2.cst_mk (P := fun v => ∃ tk, v = .int 10 tk) ?e ?f
      (case e => k_is); (case f => exact ⟨_, rfl⟩)
    have c_MOST_PLACES : ∃ v : Value, PySem.W.nsIn (L2.KOf KX) mainGlobals "MOST_PLACES" = some (some v) ∧ ∃ tk, v = .int 12 tk := by
      dsimp only [L2.KOf]
      refine' L2.cst_mk (P := fun v => ∃ tk, v = .int 12 tk) ?e ?f
      (case e => k_is); (case f => exact ⟨_, rfl⟩)
    obtain ⟨a_is_name, d_is_name, h_is_name⟩ := h_is_name
    obtain ⟨a_is_strength, d_is_strength, h_is_strength⟩ := h_is_strength
    obtain ⟨a_number_of, d_number_of, h_number_of⟩ := h_number_of
    obtain ⟨a_is_written_number, d_is_written_number, h_is_written_number⟩ := h_is_written_number
    obtain ⟨a_is_made_of, d_is_made_of, h_is_made_of⟩ := h_is_made_of
    obtain ⟨a_made_net, d_made_net, h_made_net⟩ := h_made_net
    obtain ⟨a_net_of, d_net_of, h_net_of⟩ := h_net_of
    obtain ⟨a_join_line, d_join_line, h_join_line⟩ := h_join_line
    obtain ⟨a_check_places, d_check_places, h_check_places⟩ := h_check_places
    obtain ⟨a_check_two, d_check_two, h_check_two⟩ := h_check_two
    obtain ⟨a_check_line, d_check_line, h_check_line⟩ := h_check_line
    obtain ⟨a_has_place, d_has_place, h_has_place⟩ := h_has_place
    obtain ⟨a_show_net, d_show_net, h_show_net⟩ := h_show_net
    obtain ⟨a_read_net, d_read_net, h_read_net⟩ := h_read_net
    obtain ⟨a_shown_row, d_shown_row, h_shown_row⟩ := h_shown_row
    obtain ⟨a_told_net, d_told_net, h_told_net⟩ := h_told_net
    obtain ⟨a_told_rows, d_told_rows, h_told_rows⟩ := h_told_rows
    obtain ⟨a_told_lines, d_told_lines, h_told_lines⟩ := h_told_lines
    obtain ⟨a_l_cell_at, d_l_cell_at, h_l_cell_at⟩ := h_l_cell_at
    obtain ⟨a_l_mix, d_l_mix, h_l_mix⟩ := h_l_mix
    obtain ⟨a_l_names, d_l_names, h_l_names⟩ := h_l_names
    obtain ⟨a_l_net, d_l_net, h_l_net⟩ := h_l_net
    obtain ⟨a_l_written, d_l_written, h_l_written⟩ := h_l_written
    obtain ⟨a_l_turned, d_l_turned, h_l_turned⟩ := h_l_turned
    obtain ⟨a_l_numbers, d_l_numbers, h_l_numbers⟩ := h_l_numbers
    obtain ⟨a_law, d_law, h_law, hlaw⟩ := h_law
    obtain ⟨_, c_FIGURES, t_FIGURES, rfl⟩ := c_FIGURES
    obtain ⟨_, c_GREATEST_STRENGTH, t_GREATEST_STRENGTH, rfl⟩ := c_GREATEST_STRENGTH
    obtain ⟨_, c_LETTERS, t_LETTERS, rfl⟩ := c_LETTERS
    obtain ⟨_, c_LONGEST_NAME, t_LONGEST_NAME, rfl⟩ := c_LONGEST_NAME
    obtain ⟨_, c_LONGEST_NUMBER, t_LONGEST_NUMBER, rfl⟩ := c_LONGEST_NUMBER
    obtain ⟨_, c_MOST_PLACES, t_MOST_PLACES, rfl⟩ := c_MOST_PLACES
    have T : K06.Txt (L2.KOf KX) mg ⟨a_is_name, d_is_name, a_is_strength, d_is_strength, a_number_of, d_number_of, a_is_written_number, d_is_written_number, a_is_made_of, d_is_made_of, a_made_net, d_made_net, a_net_of, d_net_of, a_join_line, d_join_line, a_check_places, d_check_places, a_check_two, d_check_two, a_check_line, d_check_line, a_has_place, d_has_place, a_show_net, d_show_net, a_read_net, d_read_net, a_shown_row, d_shown_row, a_told_net, d_told_net, a_told_rows, d_told_rows, a_told_lines, d_told_lines, a_l_cell_at, d_l_cell_at, a_l_mix, d_l_mix, a_l_names, d_l_names, a_l_net, d_l_net, a_l_written, d_l_written, a_l_turned, d_l_turned, a_l_numbers, d_l_numbers, a_law, d_law, t_FIGURES, t_GREATEST_STRENGTH, t_LETTERS, t_LONGEST_NAME, t_LONGEST_NUMBER, t_MOST_PLACES⟩ := ⟨h_is_name, h_is_strength, h_number_of, h_is_written_number, h_is_made_of, h_made_net, h_net_of, h_join_line, h_check_places, h_check_two, h_check_line, h_has_place, h_show_net, h_read_net, h_shown_row, h_told_net, h_told_rows, h_told_lines, h_l_cell_at, h_l_mix, h_l_names, h_l_net, h_l_written, h_l_turned, h_l_numbers, h_law, PySem.W.mg_none_of KX G b_all, PySem.W.mg_none_of KX G b_bool, PySem.W.mg_none_of KX G b_int, PySem.W.mg_none_of KX G b_isinstance, PySem.W.mg_none_of KX G b_len, PySem.W.mg_none_of KX G b_list, PySem.W.mg_none_of KX G b_max, PySem.W.mg_none_of KX G b_range, PySem.W.mg_none_of KX G b_reversed, PySem.W.mg_none_of KX G b_sorted, PySem.W.mg_none_of KX G b_str, PySem.W.mg_of KX G c_FIGURES, PySem.W.mg_of KX G c_GREATEST_STRENGTH, PySem.W.mg_of KX G c_LETTERS, PySem.W.mg_of KX G c_LONGEST_NAME, PySem.W.mg_of KX G c_LONGEST_NUMBER, PySem.W.mg_of KX G c_MOST_PLACES⟩
    have e0 := hmg.symm.trans T.f_law.mg
    cases e0
    exact ⟨_, hlaw, fun base kb nb => K06.ok_law T⟩
  case S =>
    intro K H a ns hl hO hS
    exact ⟨a, ns, rfl, hS, fun _ => rfl⟩
  case C => exact fun H s e s' h => h

