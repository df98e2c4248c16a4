import PyProof.Rows.All
import Wide.All
import OpenK.AllK
import Wide.FinOn
import Lean
import PyProof.EqAt
import PyProof.EqKinds
import PyProof.TupleCall
import PyProof.InstStoreFacts
import PyProof.ExcArgs
import KE.KIsAll
import KE.RegKIsAll
import KE.IntTextLaws
import OpenK.KOwn
import PyProof.NeKinds
import PyProof.Rows.EqBoolInt
import PyProof.FString5
import PyProof.EnumStmt
import PySem.Challenge.RW_spareline_k05_less_and_joined
set_option Elab.async false
set_option linter.all false
set_option maxRecDepth 100000
/-! THE HAND LAYER, for ints, bools, texts, own classes, LISTS and tuples (index, slices, in, append, pop ..), calls, loops. Paste it whole ahead of your own text; what your proof does not reach may be deleted. -/
namespace L2
open PySem PySem.Spec PyProof.Rows

/-- a key: an int or a str -/
abbrev Key := Sum Int Str
def keyIs : Key → Value → Bool
  | .inl k, v => Value.isInt k v
  | .inr x, v => Value.isStrOf x v
def keyH (w : World) : Key → Int
  | .inl k => hashInt k
  | .inr x => hashStr w x
theorem keyIs_shape : ∀ {k : Key} {v : Value}, keyIs k v = true → (∃ i t, k = Sum.inl i ∧ v = Value.int i t) ∨ (∃ x t, k = Sum.inr x ∧ v = Value.str x t)
  | .inl i, v, h => by
    obtain ⟨t, e⟩ := Value.isInt_shape (k := i) (v := v) h
    exact .inl ⟨i, t, rfl, e⟩
  | .inr x, v, h => by
    obtain ⟨t, e⟩ := Value.isStrOf_shape (x := x) (v := v) h
    exact .inr ⟨x, t, rfl, e⟩
theorem keyIs_int (i : Int) (t : Tok) : keyIs (.inl i) (.int i t) = true := by simp [keyIs, Value.isInt]
theorem keyIs_str (x : Str) (t : Tok) : keyIs (.inr x) (.str x t) = true := by simp [keyIs, Value.isStrOf]
theorem key_ll (a b : Int) : decide ((Sum.inl a : Key) = Sum.inl b) = (a == b) := by
  by_cases e : a = b
  · subst e; simp
  · have h : ¬ (Sum.inl a : Key) = Sum.inl b := fun q => e (Sum.inl.inj q)
    rw [decide_eq_false h]
    exact (beq_eq_false_iff_ne.mpr e).symm
theorem key_rr (a b : Str) : decide ((Sum.inr a : Key) = Sum.inr b) = decide (a = b) := by
  by_cases e : a = b
  · subst e; simp
  · have h : ¬ (Sum.inr a : Key) = Sum.inr b := fun q => e (Sum.inr.inj q)
    rw [decide_eq_false h, decide_eq_false e]
theorem key_lr (a : Int) (b : Str) : decide ((Sum.inl a : Key) = Sum.inr b) = false := decide_eq_false (fun q => nomatch q)
theorem key_rl (a : Str) (b : Int) : decide ((Sum.inr a : Key) = Sum.inl b) = false := decide_eq_false (fun q => nomatch q)

def mixKind (prog : Program) (w : World) : PySem.KeyKind prog w Key where
  is := keyIs
  hash := keyH w
  inj := fun v a b ha hb => by
    rcases keyIs_shape ha with ⟨i, t, rfl, rfl⟩ | ⟨x, t, rfl, rfl⟩
    · rcases keyIs_shape hb with ⟨j, u, rfl, e⟩ | ⟨y, u, rfl, e⟩
      · injection e with e1 _; rw [e1]
      · exact nomatch e
    · rcases keyIs_shape hb with ⟨j, u, rfl, e⟩ | ⟨y, u, rfl, e⟩
      · exact nomatch e
      · injection e with e1 _; rw [e1]
  byValue := fun k v h => by
    rcases keyIs_shape h with ⟨i, t, rfl, rfl⟩ | ⟨x, t, rfl, rfl⟩ <;> rfl
  pyHash := fun hv h => by
    rcases keyIs_shape hv with ⟨i, t, rfl, rfl⟩ | ⟨x, t, rfl, rfl⟩
    · exact wpAny_pyHash_int h
    · exact wpAny_pyHash_str h
  eqBool := fun hu hv h => by
    rcases keyIs_shape hu with ⟨i, t, rfl, rfl⟩ | ⟨x, t, rfl, rfl⟩
    · rcases keyIs_shape hv with ⟨j, u, rfl, rfl⟩ | ⟨y, u, rfl, rfl⟩
      · rw [key_ll] at h; exact wpAny_eqBool_int h
      · rw [key_lr] at h; exact SeqAt.EqAt.int_str i t y u _ _ _ _ h
    · rcases keyIs_shape hv with ⟨j, u, rfl, rfl⟩ | ⟨y, u, rfl, rfl⟩
      · rw [key_rl] at h; exact SeqAt.EqAt.str_int x t j u _ _ _ _ h
      · rw [key_rr] at h; exact wpAny_eqBool_str h
  «strs» := fun k x t v h => by
    rcases keyIs_shape h with ⟨i, u, rfl, e⟩ | ⟨y, u, rfl, e⟩
    · exact nomatch e
    · injection e with e1 _
      subst e1
      cases v <;> rfl

theorem mixKind_int (prog : Program) (w : World) (i : Int) (t : Tok) : (mixKind prog w).is (.inl i) (.int i t) = true := keyIs_int i t
theorem mixKind_str (prog : Program) (w : World) (x : Str) (t : Tok) : (mixKind prog w).is (.inr x) (.str x t) = true := keyIs_str x t
end L2

namespace L2
open PySem PySem.Spec PyProof.Rows

/-- a value, without the heap -/
inductive V where
  | non | bl (b : Bool) | int (i : Int) | str (x : Str) | byt (b : Array UInt8) | flt (b : UInt64) | ref (a : Addr) | ty (n : String)
  deriving DecidableEq

def RelV : V → Value → Prop
  | .non, u => u = Value.none
  | .bl b, u => u = Value.bool b
  | .int i, u => ∃ t, u = Value.int i t
  | .str x, u => ∃ t, u = Value.str x t
  | .byt b, u => ∃ t, u = Value.bytes b t
  | .flt b, u => ∃ t, u = Value.float b t
  | .ref a, u => u = Value.ref a
  | .ty n, u => u = Value.type n

abbrev Vals : List V → List Value → Prop := Paired RelV
theorem Vals.length {xs : List V} {us : List Value} (r : Vals xs us) : xs.length = us.length := Paired.length r
theorem Vals.get : ∀ {xs : List V} {us : List Value} {i : Nat} {x : V}, Vals xs us → xs[i]? = some x → ∃ u, us[i]? = some u ∧ RelV x u
  | _, _, _, _, .nil, e => by simp at e
  | _, _, 0, _, .cons r _, e => by simp at e; subst e; exact ⟨_, rfl, r⟩
  | _, _, i + 1, x, .cons _ t, e => by
    obtain ⟨u, h1, h2⟩ := Vals.get (i := i) (x := x) t (by simpa using e)
    exact ⟨u, by simpa using h1, h2⟩
theorem Vals.set {x : V} {u : Value} (r : RelV x u) : ∀ {xs : List V} {us : List Value} (i : Nat), Vals xs us → Vals (xs.set i x) (us.set i u)
  | _, _, _, .nil => .nil
  | _, _, 0, .cons _ t => .cons r t
  | _, _, i + 1, .cons q t => .cons q (Vals.set r i t)
theorem Vals.append : ∀ {xs ys : List V} {us ws : List Value}, Vals xs us → Vals ys ws → Vals (xs ++ ys) (us ++ ws)
  | _, _, _, _, .nil, s => s
  | _, _, _, _, .cons r t, s => .cons r (Vals.append t s)
theorem Vals.take : ∀ {xs : List V} {us : List Value} (n : Nat), Vals xs us → Vals (xs.take n) (us.take n)
  | _, _, 0, _ => .nil
  | _, _, _ + 1, .nil => .nil
  | _, _, n + 1, .cons r t => .cons r (Vals.take n t)
theorem Vals.drop : ∀ {xs : List V} {us : List Value} (n : Nat), Vals xs us → Vals (xs.drop n) (us.drop n)
  | _, _, 0, r => r
  | _, _, _ + 1, .nil => .nil
  | _, _, n + 1, .cons _ t => Vals.drop n t
theorem Vals.none_of : ∀ {xs : List V} {us : List Value} {i : Nat}, Vals xs us → xs[i]? = none → us[i]? = none := fun {xs us i} r e => by
  have h1 := r.length
  have h2 : xs.length ≤ i := List.getElem?_eq_none_iff.mp e
  exact List.getElem?_eq_none_iff.mpr (by omega)

def RelO : Option V → Option Value → Prop
  | some v, some u => RelV v u
  | none, none => True
  | _, _ => False
def KV {κ : Type} : List (κ × V) → List (κ × Value) → Prop := Paired fun (p : κ × V) (q : κ × Value) => p.1 = q.1 ∧ RelV p.2 q.2

/-- a key of a dict (00_mix): an int or a text -/
def kV : Key → V
  | .inl i => .int i
  | .inr x => .str x

/-- what stands at a tracked address -/
inductive HO where
  /-- a list -/
  | lst (xs : List V)
  /-- a tuple (never changes) -/
  | tup (xs : List V)
  /-- a dict whose keys are ints and texts; one whose keys are tuples of ints and texts (the empty one is both) -/
  | dK (kvs : List (Key × V)) | dT (kvs : List (List Key × V))
  /-- a set of ints: its members, its size -/
  | set (S : Int → Bool) (n : Nat)
  /-- an instance of the class at C, its dict at dx, its attributes -/
  | ins (C dx : Addr) (fs : List (Str × V))
  /-- the dict of the instance at x -/
  | own (x : Addr)
  /-- the dict of an exception -/
  | xd (fs : List (Str × V))
  /-- a bound method, f of x -/
  | met (f x : Addr)
  /-- a range object lo, lo + 1, .. below hi -/
  | rng (lo hi : Int)
  /-- a thing that is known to the object (the script; a dict while a loop walks it): read, never written while it is so -/
  | frz (o : Obj) (u : HO)
  /-- a code object's table -/
  | tbl (ps : Array Value)
  /-- any other thing, by what is true of its one object (a def of one's own: SetO a S n := HO.ext fun h => ..) -/
  | ext (φ : Heap → Prop)

abbrev Hp := Addr → Option HO
def upd (H : Hp) (a : Addr) (o : HO) : Hp := fun b => if b = a then some o else H b
theorem upd_same {H : Hp} {a : Addr} {o : HO} : upd H a o a = some o := by unfold upd; rw [if_pos rfl]
theorem upd_ne {H : Hp} {a b : Addr} {o : HO} (h : b ≠ a) : upd H a o b = H b := by unfold upd; rw [if_neg h]
/-- two objects of different content stand apart -/
theorem ne_of {H : Hp} {a b : Addr} {o u : HO} (h : H a = some o) (h' : H b = some u) (d : o ≠ u) : a ≠ b := by
  intro e; subst e; rw [h] at h'; exact d (Option.some.inj h')
theorem ne_of_none {H : Hp} {a b : Addr} {o : HO} (h : H a = some o) (h' : H b = none) : a ≠ b := by
  intro e; subst e; rw [h] at h'; cases h'

section
variable (P : Program) (w : World)
def ObjOk (H : Hp) (h : Heap) (a : Addr) : HO → Prop
  | .lst xs => xs.length ≤ sizeLine ∧ ∃ (its : List Value) (n : Nat), Vals xs its ∧ h.get? a = some { cls := .type "list", data := .seq its.toArray n }
  | .tup xs => xs.length ≤ sizeLine ∧ ∃ its : List Value, Vals xs its ∧ IsTup h a its.toArray
  | .dK kvs => kvs.length ≤ sizeLine ∧ (a == sysModules) = false ∧ ∃ vs, KV kvs vs ∧ h.DictOf (mixKind P w) a vs
  | .dT kvs => kvs.length ≤ sizeLine ∧ (a == sysModules) = false ∧ ∃ xs : List (List Key × Addr × Value),
      Paired (fun (p : List Key × V) (q : List Key × Addr × Value) => p.1 = q.1 ∧ H q.2.1 = some (.tup (p.1.map kV)) ∧ RelV p.2 q.2.2) kvs xs ∧
      ∃ o es ep, h.get? a = some o ∧ o.ExactDict ∧ o.data = .dict es ep ∧ es.toList = xs.map (entryOfKey (tupleKind (mixKind P w))) ∧ (xs.map (·.1)).Nodup
  | .set S n => h.SetOf (intKind P w) a S n
  | .ins C dx fs => H dx = some (.own a) ∧ fs.length ≤ 1000 ∧ dx ≠ a ∧ h.get? a = some (PySem.W.instObj C dx) ∧
      ∃ mA, h.Ns1 dx mA ∧ (∀ f, RelO (fs.lookup f) (mA f)) ∧ PySem.Within mA (fs.map (·.1))
  | .own _ => ∃ o, h.get? a = some o
  | .xd fs => ∃ mA, h.Ns1 a mA ∧ ∀ f, RelO (fs.lookup f) (mA f)
  | .rng lo hi => ∃ t u v, h.get? a = some { cls := .type "range", data := .fields #[.int lo t, .int hi u, .int 1 v] }
  | .frz o u => h.get? a = some o ∧ ObjOk H h a u
  | .tbl ps => h.get? a = some { cls := .none, data := .fields ps }
  | .met f x => h.get? a = some (PySem.W.methodObj (.ref f) (.ref x))
  | .ext φ => φ h ∧ (∃ o, h.get? a = some o) ∧ ∀ h1 h2 : Heap, φ h1 → (∀ o, h1.get? a = some o → h2.get? a = some o) → φ h2
/-- the abstract heap is held -/
def HOk (H : Hp) (h : Heap) : Prop := ∀ a o, H a = some o → ObjOk P w H h a o
end

section
variable {P : Program} {w : World} {H H' : Hp} {h h' : Heap} {a : Addr} {o : HO}
theorem ObjOk.lt (x : ObjOk P w H h a o) : a < h.objs.size := by
  cases o with
  | lst xs => obtain ⟨_, _, _, _, e⟩ := x; exact Heap.lt_size e
  | tup xs => obtain ⟨_, _, _, p⟩ := x; exact p.lt
  | dK kvs => obtain ⟨_, _, _, _, o, _, _, e, _⟩ := x; exact Heap.lt_size e
  | dT kvs => obtain ⟨_, _, _, _, o, _, _, e, _⟩ := x; exact Heap.lt_size e
  | set S n => obtain ⟨o, _, _, _, e, _⟩ := x; exact Heap.lt_size e
  | ins C dx fs => obtain ⟨_, _, _, e, _⟩ := x; exact Heap.lt_size e
  | own y => obtain ⟨_, e⟩ := x; exact Heap.lt_size e
  | xd fs => obtain ⟨_, ⟨_, _, _, e, _⟩, _⟩ := x; exact Heap.lt_size e
  | rng lo hi => obtain ⟨_, _, _, e⟩ := x; exact Heap.lt_size e
  | frz ob u => obtain ⟨e, _⟩ := x; exact Heap.lt_size e
  | tbl ps => exact Heap.lt_size (show h.get? a = some _ from x)
  | met f y => exact Heap.lt_size (show h.get? a = some _ from x)
  | ext φ => obtain ⟨_, ⟨_, e⟩, _⟩ := x; exact Heap.lt_size e
theorem Paired.mapP {α β : Type} {F G : α → β → Prop} : ∀ {l₁ : List α} {l₂ : List β}, Paired F l₁ l₂ → (∀ a b, F a b → G a b) → Paired G l₁ l₂
  | _, _, .nil, _ => .nil
  | _, _, .cons r t, f => .cons (f _ _ r) (Paired.mapP t f)
/-- what an object's description leans on: its own object, its own dict, the tuples -/
theorem ObjOk.stay (x : ObjOk P w H h a o) (k : ∀ b u, (b = a ∨ H b = some (.own a)) → h.get? b = some u → h'.get? b = some u)
    (ho : ∀ b, H b = some (.own a) → H' b = some (.own a)) (ht : ∀ b xs, H b = some (.tup xs) → H' b = some (.tup xs)) : ObjOk P w H' h' a o := by
  induction o with
  | lst xs => obtain ⟨z, its, n, r, e⟩ := x; exact ⟨z, its, n, r, k _ _ (.inl rfl) e⟩
  | tup xs => obtain ⟨z, its, r, ob, e, c⟩ := x; exact ⟨z, its, r, ob, k _ _ (.inl rfl) e, c⟩
  | dK kvs => obtain ⟨z, y, vs, r, ob, es, ep, e, c⟩ := x; exact ⟨z, y, vs, r, ob, es, ep, k _ _ (.inl rfl) e, c⟩
  | dT kvs =>
    obtain ⟨z, y, xs, r, ob, es, ep, e, c⟩ := x
    exact ⟨z, y, xs, Paired.mapP r fun p q z => ⟨z.1, ht _ _ z.2.1, z.2.2⟩, ob, es, ep, k _ _ (.inl rfl) e, c⟩
  | set S n => obtain ⟨ob, es, ep, t, e, c⟩ := x; exact ⟨ob, es, ep, t, k _ _ (.inl rfl) e, c⟩
  | ins C dx fs =>
    obtain ⟨d, z, ne, e, mA, ⟨od, es, ep, e2, c⟩, r⟩ := x
    exact ⟨ho _ d, z, ne, k _ _ (.inl rfl) e, mA, ⟨od, es, ep, k _ _ (.inr d) e2, c⟩, r⟩
  | own y => obtain ⟨ob, e⟩ := x; exact ⟨ob, k _ _ (.inl rfl) e⟩
  | xd fs => obtain ⟨mA, ⟨od, es, ep, e, c⟩, r⟩ := x; exact ⟨mA, ⟨od, es, ep, k _ _ (.inl rfl) e, c⟩, r⟩
  | rng lo hi => obtain ⟨t, u, v, e⟩ := x; exact ⟨t, u, v, k _ _ (.inl rfl) e⟩
  | frz ob u ih => obtain ⟨e, q⟩ := x; exact ⟨k _ _ (.inl rfl) e, ih q⟩
  | tbl ps =>
    have e : h.get? a = some { cls := .none, data := .fields ps } := x
    show h'.get? a = some { cls := .none, data := .fields ps }
    exact k a _ (.inl rfl) e
  | met f y =>
    have e : h.get? a = some (PySem.W.methodObj (.ref f) (.ref y)) := x
    show h'.get? a = some (PySem.W.methodObj (.ref f) (.ref y))
    exact k a _ (.inl rfl) e
  | ext φ => obtain ⟨p, ⟨o, e⟩, st⟩ := x; exact ⟨st _ _ p fun o q => k _ _ (.inl rfl) q, ⟨o, k _ _ (.inl rfl) e⟩, st⟩
theorem HOk.lt (x : HOk P w H h) (e : H a = some o) : a < h.objs.size := (x a o e).lt
theorem HOk.fresh (x : HOk P w H h) (e : h.objs.size ≤ a) : H a = none := by
  cases q : H a with
  | none => rfl
  | some u => exact absurd (Nat.lt_of_lt_of_le (x.lt q) e) (Nat.lt_irrefl _)
/-- every object of the heap is kept -/
theorem HOk.kept (x : HOk P w H h) (k : ∀ b u, h.get? b = some u → h'.get? b = some u) : HOk P w H h' := fun a o e =>
  (x a o e).stay (fun b u _ q => k b u q) (fun _ q => q) fun _ _ q => q
/-- a new object is laid and tracked -/
theorem HOk.laid (x : HOk P w H h) (k : ∀ b u, h.get? b = some u → h'.get? b = some u) (hp : h.objs.size ≤ a) (new : ObjOk P w (upd H a o) h' a o) : HOk P w (upd H a o) h' := fun b u e => by
  have hn := x.fresh hp
  by_cases hb : b = a
  · subst hb; rw [upd_same] at e; cases e; exact new
  · rw [upd_ne hb] at e
    exact (x b u e).stay (fun c v _ q => k c v q) (fun c q => by rw [upd_ne (ne_of_none q hn)]; exact q) fun c xs q => by rw [upd_ne (ne_of_none q hn)]; exact q
end

/-- what may be read as u: it is u, or a known u -/
def Rd (H : Hp) (a : Addr) (u : HO) : Prop := H a = some u ∨ ∃ o, H a = some (.frz o u)
theorem Rd.of {H : Hp} {a : Addr} {u : HO} (h : H a = some u) : Rd H a u := .inl h
theorem Rd.ok {P : Program} {w : World} {H : Hp} {h : Heap} {a : Addr} {u : HO} (r : Rd H a u) (x : HOk P w H h) : ObjOk P w H h a u := by
  rcases r with r | ⟨o, r⟩
  · exact x a u r
  · obtain ⟨_, q⟩ := x a _ r
    exact q
/-- what may be written -/
def Mut : Option HO → Prop
  | some (.lst _) => True
  | some (.dK _) => True
  | some (.dT _) => True
  | some (.set _ _) => True
  | some (.ins _ _ _) => True
  | some (.ext _) => True
  | _ => False
section
variable {P : Program} {w : World} {H : Hp} {h h' : Heap} {x e : Addr} {o' : HO}
/-- the object at e is changed: x itself, or the dict of the instance x -/
theorem HOk.write (ok : HOk P w H h) (mu : Mut (H x)) (he : e = x ∨ H e = some (.own x)) (k : ∀ b u, b ≠ e → h.get? b = some u → h'.get? b = some u) (heo : ∃ u, h'.get? e = some u)
    (new : ObjOk P w (upd H x o') h' x o') : HOk P w (upd H x o') h' := fun b u q => by
  have nown : ∀ c y, H c = some (.own y) → c ≠ x := fun c y r z => by subst z; rw [r] at mu; exact mu
  have ntup : ∀ c xs, H c = some (.tup xs) → c ≠ x := fun c xs r z => by subst z; rw [r] at mu; exact mu
  by_cases hb : b = x
  · subst hb; rw [upd_same] at q; cases q; exact new
  · rw [upd_ne hb] at q
    by_cases hbe : b = e
    · have q' : H b = some (.own x) := by
        rcases he with z | z
        · exact absurd (hbe.trans z) hb
        · rw [hbe]; exact z
      rw [q] at q'; cases q'
      obtain ⟨v, hv⟩ := heo
      exact ⟨v, by rw [hbe]; exact hv⟩
    · refine (ok b u q).stay (fun c v hc r => k c v ?_ r) (fun c r => by rw [upd_ne (nown c b r)]; exact r) fun c xs r => by rw [upd_ne (ntup c xs r)]; exact r
      rcases hc with rfl | hc
      · exact hbe
      · rintro rfl
        rcases he with z | z
        · exact nown c b hc z
        · rw [hc] at z; cases z; exact hb rfl
end

/-! ### kept unless tracked; of the frames at fs (the callers') the slots may change (an exception that passes writes there); of the records at ex (iterators) nothing is said -/
structure Un (fs ex : List Addr) (H H' : Hp) (h h' : Heap) : Prop where
  keep : ∀ b o, h.get? b = some o → H b = none → b ∉ fs → b ∉ ex → h'.get? b = some o
  slot : ∀ b o, h.get? b = some o → H b = none → b ∈ fs → b ∉ ex → ∃ sl, h'.get? b = some { o with slots := sl }
  free : ∀ b o, h.get? b = some o → H b = none → b ∉ ex → H' b = none
  there : ∀ b o, h.get? b = some o → b ∉ ex → ∃ o', h'.get? b = some o'
  tups : ∀ b xs, H b = some (.tup xs) → H' b = some (.tup xs)
  frzs : ∀ b o u, H b = some (.frz o u) → H' b = some (.frz o u)
  tbls : ∀ b ps, H b = some (.tbl ps) → ∃ more, H' b = some (.tbl (ps ++ more))
section
variable {fs fs' ex ex' : List Addr} {H H1 H2 : Hp} {h h1 h2 h' : Heap} {a x e : Addr} {o : HO}
theorem Un.any (u : Un fs ex H H1 h h1) {b : Addr} {ob : Obj} (q : h.get? b = some ob) (n : H b = none) (hx : b ∉ ex) : ∃ sl, h1.get? b = some { ob with slots := sl } := by
  by_cases hb : b ∈ fs
  · exact u.slot b ob q n hb hx
  · exact ⟨ob.slots, u.keep b ob q n hb hx⟩
theorem Un.trans (a : Un fs ex H H1 h h1) (b : Un fs ex H1 H2 h1 h2) : Un fs ex H H2 h h2 where
  keep := fun c ob q n hc hx => b.keep c ob (a.keep c ob q n hc hx) (a.free c ob q n hx) hc hx
  slot := fun c ob q n hc hx => by
    obtain ⟨sl, e1⟩ := a.slot c ob q n hc hx
    obtain ⟨sl', e2⟩ := b.slot c _ e1 (a.free c ob q n hx) hc hx
    exact ⟨sl', e2⟩
  free := fun c ob q n hx => by
    obtain ⟨o', e1⟩ := a.there c ob q hx
    exact b.free c o' e1 (a.free c ob q n hx) hx
  there := fun c ob q hx => by
    obtain ⟨o', e1⟩ := a.there c ob q hx
    exact b.there c o' e1 hx
  tups := fun c xs q => b.tups c xs (a.tups c xs q)
  frzs := fun c ob xs q => b.frzs c ob xs (a.frzs c ob xs q)
  tbls := fun c ps q => by
    obtain ⟨m1, e1⟩ := a.tbls c ps q
    obtain ⟨m2, e2⟩ := b.tbls c _ e1
    exact ⟨m1 ++ m2, by rw [e2, Array.append_assoc]⟩
theorem Un.kept (k : ∀ b u, h.get? b = some u → h'.get? b = some u) : Un fs ex H H h h' :=
  ⟨fun b ob q _ _ _ => k b ob q, fun b ob q _ _ _ => ⟨ob.slots, k b ob q⟩, fun _ _ _ n _ => n, fun b ob q _ => ⟨ob, k b ob q⟩, fun _ _ q => q, fun _ _ _ q => q, fun _ ps q => ⟨#[], by rw [q]; simp⟩⟩
theorem Un.refl : Un fs ex H H h h := Un.kept fun _ _ q => q
theorem Un.laid (k : ∀ b u, h.get? b = some u → h'.get? b = some u) (hp : h.objs.size ≤ a) (hn : H a = none) : Un fs ex H (upd H a o) h h' where
  keep := fun b u q _ _ _ => k b u q
  slot := fun b u q _ _ _ => ⟨u.slots, k b u q⟩
  free := fun b u q n _ => by rw [upd_ne (Nat.ne_of_lt (Nat.lt_of_lt_of_le (Heap.lt_size q) hp))]; exact n
  there := fun b u q _ => ⟨u, k b u q⟩
  tups := fun b xs q => by rw [upd_ne (ne_of_none q hn)]; exact q
  frzs := fun b u xs q => by rw [upd_ne (ne_of_none q hn)]; exact q
  tbls := fun b ps q => ⟨#[], by rw [upd_ne (ne_of_none q hn), q]; simp⟩
theorem Un.write (mu : Mut (H x)) (he : e = x ∨ H e = some (.own x)) (k : ∀ b u, b ≠ e → h.get? b = some u → h'.get? b = some u) (heo : ∃ u, h'.get? e = some u) : Un fs ex H (upd H x o) h h' := by
  have hx : ∀ b, H b = none → b ≠ x := fun b n z => by subst z; rw [n] at mu; exact mu
  have hb : ∀ b, H b = none → b ≠ e := fun b n z => by
    subst z
    rcases he with r | r
    · exact hx b n r
    · rw [n] at r; cases r
  have hm : ∀ b u, H b = some u → ¬ Mut (some u) → b ≠ x := fun b u q nm z => by subst z; rw [q] at mu; exact nm mu
  refine ⟨fun b u q n _ _ => k b u (hb b n) q, fun b u q n _ _ => ⟨u.slots, k b u (hb b n) q⟩, fun b u q n _ => by rw [upd_ne (hx b n)]; exact n, fun b u q _ => ?_,
    fun b xs q => by rw [upd_ne (hm b _ q fun z => z)]; exact q, fun b u xs q => by rw [upd_ne (hm b _ q fun z => z)]; exact q, fun b ps q => ⟨#[], by rw [upd_ne (hm b _ q fun z => z), q]; simp⟩⟩
  by_cases hbe : b = e
  · subst hbe; exact heo
  · exact ⟨u, k b u hbe q⟩
theorem Un.mono (u : Un fs ex H H1 h h1) (hs : ∀ b ∈ fs, b ∈ fs') (hx : ∀ b ∈ ex, b ∈ ex') : Un fs' ex' H H1 h h1 :=
  ⟨fun b ob q n hb he => u.keep b ob q n (fun z => hb (hs b z)) fun z => he (hx b z), fun _ _ q n _ he => u.any q n fun z => he (hx _ z), fun b ob q n he => u.free b ob q n fun z => he (hx b z), fun b ob q he => u.there b ob q fun z => he (hx b z), u.tups, u.frzs, u.tbls⟩
end

/-! ### the heap without what is tracked -/
def trk (h : Heap) (H : Hp) : List Addr := (List.range h.objs.size).filter fun a => (H a).isSome
def hidT (h : Heap) (H : Hp) : Heap := PySem.W.hideAll h (trk h H)
theorem hidT_size (h : Heap) (H : Hp) : (hidT h H).objs.size = h.objs.size := PySem.W.hideAll_size _ _
theorem hidT_get {h : Heap} {H : Hp} {b : Addr} {o : Obj} (e : h.get? b = some o) (n : H b = none) : (hidT h H).get? b = some o :=
  PySem.W.hideAll_get _ e fun hm => by
    have q : (H b).isSome = true := (List.mem_filter.mp hm).2
    rw [n] at q; simp at q
theorem of_hidT {h : Heap} {H : Hp} {b : Addr} {o : Obj} (e : (hidT h H).get? b = some o) : h.get? b = some o ∧ H b = none := by
  have e' : h.get? b = some o := PySem.W.of_hideAll (trk h H) e
  refine ⟨e', ?_⟩
  cases q : H b with
  | none => rfl
  | some x =>
    have hm : b ∈ trk h H := List.mem_filter.mpr ⟨List.mem_range.mpr (Heap.lt_size e'), by simp [q]⟩
    have z : (hidT h H).get? b = none := PySem.W.hideAll_none (trk h H) hm
    rw [z] at e; cases e

/-! ### OpenK's ledger, filled with every new object but one -/
def allNews (g h : Heap) (L : Addr) : List (Addr × Obj) := (List.range h.objs.size).filterMap fun a => if a = L ∨ (g.get? a).isSome = true then none else (h.get? a).map fun o => (a, o)
def rest (g h : Heap) (L d : Addr) : List (Addr × Obj) := (allNews g h L).filter fun p => decide (p.1 ≠ d)
end L2

namespace L2
open PySem PySem.Spec PyProof.Rows

/-- the module's facts, over the base: the heap at the law's entry without what is tracked there -/
structure Mod (K : PySem.W.Frag) (mg : Str → Option Value) (base : Heap) : Prop where
  kin : K.In base
  glob : base.Ns mainGlobals mg
  blt : ∃ mb, base.Ns builtinsNs mb ∧ ∀ x : Str, x ≠ "__name__" → mb x = bootBuiltins x
  nolimit : base.NoLimit

/-- the context: a def's body (or a comprehension's block) running. base: fixed through the whole law; s₀, H₀: the entry; outer: the frames whose slots others may change (a def's callers); stack: all frames that run;
   ex: iterators that were made ahead of the entry and are walked here (a comprehension's); fn: the names whose cells were made at the entry (a def: all; a comprehension's block: its own); calm: not within an except suite; pn: pins that every state bears; xe: what is wanted of an exception that leaves the code -/
structure Cx where
  prog : Program
  w : World
  K : PySem.W.Frag
  mg : Str → Option Value
  base : Heap
  A : Around
  N : List Str
  s₀ : Shared
  H₀ : Hp
  env : Env
  outer : List Env
  stack : List Env
  ex : List Addr
  fn : Str → Bool
  calm : Bool
  pn : List (Addr × Obj)
  xe : Value → Shared → Prop
/-- the callers' frames -/
def frs (l : List Env) : List Addr := l.filterMap (·.frame)
abbrev Cx.fs (X : Cx) : List Addr := frs X.outer

def Vis (sc : Scope) (x : Str) : Prop := sc.names.lookup x = some .local ∨ sc.names.lookup x = some .cell ∨ sc.names.lookup x = some .free
def Loc (sc : Scope) (x : Str) : Prop := sc.names.lookup x = some .local ∨ sc.names.lookup x = some .cell
def Look (env : Env) (h : Heap) (m : Str → Option Value) (x : Str) (u : Value) : Prop :=
  (env.kindOf x = some .local ∧ m x = some u) ∨ ((env.kindOf x = some .cell ∨ env.kindOf x = some .free) ∧ ∃ c, env.cells.lookup x = some c ∧ h.IsCell c (some u))

structure Cx.Ok (X : Cx) : Prop where
  mod : Mod X.K X.mg X.base
  kind : X.env.scope.kind = .function
  glob : X.env.globals = mainGlobals
  blt : X.env.builtins = builtinsNs
  above : X.s₀.heap.objs.size ≤ X.env.locals
  inj : ∀ x y c, X.env.cells.lookup x = some c → X.env.cells.lookup y = some c → x = y
  has : ∀ x, (X.env.kindOf x = some .cell ∨ X.env.kindOf x = some .free) → ∃ c, X.env.cells.lookup x = some c
  cab : ∀ x c, X.fn x = true → X.env.cells.lookup x = some c → X.s₀.heap.objs.size ≤ c
  hd : X.calm = true → X.A.handled = none
  frames : X.A.frames = some X.stack
  stk : X.stack = X.outer ∨ (X.stack = X.env :: X.outer ∧ X.env.frame = some X.env.locals)
  exf : ∀ b ∈ X.ex, b ≠ X.env.locals ∧ ∀ x c, X.env.cells.lookup x = some c → c ≠ b
  bs : ∀ b o, X.base.get? b = some o → X.s₀.heap.get? b = some o ∧ X.H₀ b = none
  bsz : X.base.objs.size ≤ X.s₀.heap.objs.size
  noex : ∀ b o, X.base.get? b = some o → b ∉ X.ex
  exfs : ∀ b ∈ X.ex, b ∉ X.fs
  funs : X.s₀.heap.FunFrames X.base X.outer
  frf : ∀ b ∈ X.fs, X.H₀ b = none

structure Inv (X : Cx) (pins : List (Addr × Obj)) (σ : List (Option V)) (H : Hp) (s : Shared) : Prop where
  ok : X.Ok
  os : s.os = X.s₀.os
  bare : AllBare s.gens
  base : Un X.fs X.ex X.H₀ H X.s₀.heap s.heap
  loc : ∃ m, s.heap.Ns X.env.locals m ∧ ∀ (i : Nat) (x : Str) (v : V), X.N[i]? = some x → σ[i]? = some (some v) → Vis X.env.scope x → ∃ u, RelV v u ∧ Look X.env s.heap m x u
  cell : ∀ x c, X.env.cells.lookup x = some c → ∃ v, s.heap.IsCell c v
  free : H X.env.locals = none
  freeC : ∀ x c, X.env.cells.lookup x = some c → H c = none
  pin : ∀ p ∈ X.pn ++ pins, s.heap.get? p.1 = some p.2 ∧ H p.1 = none ∧ p.1 ≠ X.env.locals ∧ p.1 ∉ X.fs ∧ ∀ v, p.2.data ≠ .cell v
  hok : HOk X.prog X.w H s.heap
  len : σ.length = X.N.length

section
variable {X : Cx} {pins : List (Addr × Obj)} {σ : List (Option V)} {H H' : Hp} {s : Shared} {h' : Heap}

theorem Cx.Ok.nofr (ok : X.Ok) {b : Addr} {o : Obj} (e : X.base.get? b = some o) : b ∉ X.fs := fun hb => by
  have := (ok.funs.mem hb).1
  rw [e] at this; cases this
theorem Inv.bs (I : Inv X pins σ H s) : ∀ b o, X.base.get? b = some o → s.heap.get? b = some o ∧ H b = none := fun b o e =>
  ⟨I.base.keep b o (I.ok.bs b o e).1 (I.ok.bs b o e).2 (I.ok.nofr e) (I.ok.noex b o e), I.base.free b o (I.ok.bs b o e).1 (I.ok.bs b o e).2 (I.ok.noex b o e)⟩
theorem Inv.bk (I : Inv X pins σ H s) : ∀ b o, X.base.get? b = some o → s.heap.get? b = some o := fun b o e => (I.bs b o e).1
theorem Inv.mod (I : Inv X pins σ H s) : Mod X.K X.mg X.base := I.ok.mod
theorem Inv.kIn (I : Inv X pins σ H s) : X.K.In s.heap := I.ok.mod.kin.keeps I.bk
theorem Inv.nolimit (I : Inv X pins σ H s) : s.heap.NoLimit := I.ok.mod.nolimit.keeps I.bk
theorem Inv.lt (I : Inv X pins σ H s) : X.env.locals < s.heap.objs.size := let ⟨_, hn, _⟩ := I.loc; hn.lt
theorem Inv.sz (I : Inv X pins σ H s) : X.s₀.heap.objs.size ≤ s.heap.objs.size := Nat.le_trans I.ok.above (Nat.le_of_lt I.lt)
theorem Inv.nofs (I : Inv X pins σ H s) {a : Addr} (h : s.heap.objs.size ≤ a) : a ∉ X.fs := fun hb => by
  obtain ⟨_, o, ho, _⟩ := I.ok.funs.mem hb
  exact absurd (Nat.lt_of_lt_of_le (Heap.lt_size ho) (Nat.le_trans I.sz h)) (Nat.lt_irrefl _)
theorem Inv.cne (I : Inv X pins σ H s) : ∀ x c, X.env.cells.lookup x = some c → c ≠ X.env.locals := fun x c e z => by
  obtain ⟨v, o, ho, hd⟩ := I.cell x c e
  obtain ⟨m, ⟨o', es, ep, ho', hd', _⟩, _⟩ := I.loc
  rw [z, ho'] at ho; cases ho; rw [hd'] at hd; cases hd
theorem Inv.funs (I : Inv X pins σ H s) : s.heap.FunFrames X.base X.outer := by
  have all : ∀ (l : List Env), (∀ b ∈ frs l, b ∈ X.fs) → X.s₀.heap.FunFrames X.base l → s.heap.FunFrames X.base l := by
    intro l
    induction l with
    | nil => intro _ _; trivial
    | cons env r ih =>
      intro hs hl
      obtain ⟨hk, ⟨L, o, hf, hn, ho, hd⟩, hr⟩ := hl
      have hL : L ∈ X.fs := hs L (by unfold frs; rw [List.filterMap_cons, hf]; exact List.mem_cons_self)
      obtain ⟨sl, e⟩ := I.base.slot L o ho (I.ok.frf L hL) hL fun z => I.ok.exfs L z hL
      exact ⟨hk, ⟨L, _, hf, hn, e, hd⟩, ih (fun b hb => hs b (by unfold frs; rw [List.filterMap_cons, hf]; exact List.mem_cons_of_mem _ hb)) hr⟩
  exact all X.outer (fun _ hb => hb) I.ok.funs

/-- the frames that run, for a call -/
theorem Inv.stack (I : Inv X pins σ H s) : s.heap.FunFrames X.base X.stack := by
  rcases I.ok.stk with e | ⟨e, hf⟩
  · rw [e]; exact I.funs
  · rw [e]
    obtain ⟨m, hn, _⟩ := I.loc
    refine .cons (by rw [I.ok.kind]; decide) hf hn ?_ I.funs
    exact Heap.get?_none_of_le (Nat.le_trans I.ok.bsz I.ok.above)
theorem Inv.stkSub (I : Inv X pins σ H s) : ∀ b ∈ frs X.stack, b ∈ X.env.locals :: X.fs := fun b hb => by
  rcases I.ok.stk with e | ⟨e, hf⟩
  · rw [e] at hb; exact List.mem_cons_of_mem _ hb
  · rw [e] at hb
    unfold frs at hb
    rw [List.filterMap_cons, hf] at hb
    exact hb
theorem Inv.stkFree (I : Inv X pins σ H s) : ∀ b ∈ frs X.stack, H b = none := fun b hb => by
  rcases List.mem_cons.mp (I.stkSub b hb) with e | hb
  · rw [e]; exact I.free
  · obtain ⟨_, o, ho, _⟩ := I.ok.funs.mem hb
    exact I.base.free b o ho (I.ok.frf b hb) fun z => I.ok.exfs b z hb

/-- THE STEP: the untracked objects but the frame and the records at ch are kept (the callers' frames up to slots), the frame's map is kept, the new abstract heap is held -/
theorem Inv.step {g' : Array GenState} {t' : Nat} {d' : Drawn} {ch : List Addr} (I : Inv X pins σ H s)
    (hch : ∀ b ∈ ch, (b ∈ X.ex ∨ X.s₀.heap.objs.size ≤ b) ∧ b ≠ X.env.locals ∧ (∀ x c, X.env.cells.lookup x = some c → c ≠ b) ∧ ∀ p ∈ X.pn ++ pins, p.1 ≠ b)
    (keep : ∀ b o, b ≠ X.env.locals → b ∉ X.fs → b ∉ ch → s.heap.get? b = some o → H b = none → h'.get? b = some o)
    (slot : ∀ b o, b ≠ X.env.locals → b ∈ X.fs → b ∉ ch → s.heap.get? b = some o → H b = none → ∃ sl, h'.get? b = some { o with slots := sl }) (free : ∀ b o, b ∉ ch → s.heap.get? b = some o → H b = none → H' b = none)
    (there : ∀ b o, b ∉ ch → s.heap.get? b = some o → ∃ o', h'.get? b = some o')
    (tups : ∀ b xs, H b = some (.tup xs) → H' b = some (.tup xs)) (frzs : ∀ b o u, H b = some (.frz o u) → H' b = some (.frz o u)) (tbls : ∀ b ps, H b = some (.tbl ps) → ∃ more, H' b = some (.tbl (ps ++ more)))
    (ns : ∀ m, s.heap.Ns X.env.locals m → h'.Ns X.env.locals m) (hok : HOk X.prog X.w H' h') (hg : AllBare g') :
    Inv X pins σ H' { s with heap := h', gens := g', drawn := d', toks := t' } := by
  have neL : ∀ b o, X.s₀.heap.get? b = some o → b ≠ X.env.locals := fun b o e => Nat.ne_of_lt (Nat.lt_of_lt_of_le (Heap.lt_size e) I.ok.above)
  have neC : ∀ b o, X.s₀.heap.get? b = some o → b ∉ X.ex → b ∉ ch := fun b o e hx hb => by
    rcases (hch b hb).1 with z | z
    · exact hx z
    · exact absurd (Nat.lt_of_lt_of_le (Heap.lt_size e) z) (Nat.lt_irrefl _)
  have cellK : ∀ x c, X.env.cells.lookup x = some c → ∀ v, s.heap.IsCell c v → h'.IsCell c v := fun x c e v ⟨o, ho, hd⟩ => by
    have nch : c ∉ ch := fun z => (hch c z).2.2.1 x c e rfl
    by_cases hc : c ∈ X.fs
    · obtain ⟨sl, q⟩ := slot c o (I.cne x c e) hc nch ho (I.freeC x c e)
      exact ⟨_, q, hd⟩
    · exact ⟨o, keep c o (I.cne x c e) hc nch ho (I.freeC x c e), hd⟩
  refine ⟨I.ok, I.os, hg, ⟨fun b o e n hb hx => ?_, fun b o e n hb hx => ?_, fun b o e n hx => ?_, fun b o e hx => ?_, fun b xs e => tups b xs (I.base.tups b xs e), fun b o xs e => frzs b o xs (I.base.frzs b o xs e), fun b ps e => ?_⟩, ?_, fun x c e => ?_, ?_, fun x c e => ?_, fun p hp => ?_, hok, I.len⟩
  · exact keep b o (neL b o e) hb (neC b o e hx) (I.base.keep b o e n hb hx) (I.base.free b o e n hx)
  · obtain ⟨sl, e1⟩ := I.base.slot b o e n hb hx
    obtain ⟨sl', e2⟩ := slot b _ (neL b o e) hb (neC b o e hx) e1 (I.base.free b o e n hx)
    exact ⟨sl', e2⟩
  · obtain ⟨o', e1⟩ := I.base.there b o e hx
    exact free b o' (neC b o e hx) e1 (I.base.free b o e n hx)
  · obtain ⟨o', e1⟩ := I.base.there b o e hx
    exact there b o' (neC b o e hx) e1
  · obtain ⟨m1, e1⟩ := I.base.tbls b ps e
    obtain ⟨m2, e2⟩ := tbls b _ e1
    exact ⟨m1 ++ m2, by rw [e2, Array.append_assoc]⟩
  · obtain ⟨m, hn, hl⟩ := I.loc
    refine ⟨m, ns m hn, fun i x v e1 e2 e3 => ?_⟩
    obtain ⟨u, r, l⟩ := hl i x v e1 e2 e3
    refine ⟨u, r, ?_⟩
    rcases l with l | ⟨k, c, e, z⟩
    · exact .inl l
    · exact .inr ⟨k, c, e, cellK x c e _ z⟩
  · obtain ⟨v, z⟩ := I.cell x c e
    exact ⟨v, cellK x c e v z⟩
  · obtain ⟨m, ⟨o, _, _, ho, _⟩, _⟩ := I.loc
    exact free _ o (fun z => (hch _ z).2.1 rfl) ho I.free
  · obtain ⟨v, o, ho, hd⟩ := I.cell x c e
    exact free c o (fun z => (hch c z).2.2.1 x c e rfl) ho (I.freeC x c e)
  · obtain ⟨e, n, ne, nf, d⟩ := I.pin p hp
    have nch : p.1 ∉ ch := fun z => (hch p.1 z).2.2.2 p hp rfl
    exact ⟨keep p.1 p.2 ne nf nch e n, free p.1 p.2 nch e n, ne, nf, d⟩
/-- .. where the frame's own object is kept too -/
theorem Inv.un {t' : Nat} (I : Inv X pins σ H s) (u : Un X.fs [] H H' s.heap h') (hok : HOk X.prog X.w H' h') : Inv X pins σ H' { s with heap := h', toks := t' } := by
  obtain ⟨m, ⟨o, es, ep, ho, r⟩, _⟩ := id I.loc
  obtain ⟨sl, hL⟩ := u.any ho I.free (by simp)
  exact I.step (g' := s.gens) (d' := s.drawn) (ch := []) (fun _ z => nomatch z) (fun b o _ hb _ e n => u.keep b o e n hb (by simp)) (fun b o _ hb _ e n => u.slot b o e n hb (by simp)) (fun b o _ e n => u.free b o e n (by simp)) (fun b o _ e => u.there b o e (by simp)) u.tups u.frzs u.tbls (fun m' hm => by
    obtain ⟨o', es', ep', ho', r'⟩ := hm
    rw [ho] at ho'; cases ho'
    exact ⟨_, es', ep', hL, r'⟩) hok I.bare
/-- behind a call (or a comprehension's block): the slots of this frame may have changed too, the records at ch may have turned -/
theorem Inv.call {g' : Array GenState} {t' : Nat} {d' : Drawn} {ch : List Addr} (I : Inv X pins σ H s) (u : Un (frs X.stack) ch H H' s.heap h') (hok : HOk X.prog X.w H' h') (hg : AllBare g')
    (hch : ∀ b ∈ ch, (b ∈ X.ex ∨ X.s₀.heap.objs.size ≤ b) ∧ b ≠ X.env.locals ∧ (∀ x c, X.env.cells.lookup x = some c → c ≠ b) ∧ ∀ p ∈ X.pn ++ pins, p.1 ≠ b) :
    Inv X pins σ H' { s with heap := h', gens := g', drawn := d', toks := t' } := by
  obtain ⟨m, ⟨o, es, ep, ho, r⟩, _⟩ := id I.loc
  obtain ⟨sl, hL⟩ := u.any ho I.free fun z => (hch _ z).2.1 rfl
  exact I.step (ch := ch) hch (fun b o hL hb hc e n => u.keep b o e n (fun z => (List.mem_cons.mp (I.stkSub b z)).elim hL hb) hc) (fun b o _ _ hc e n => u.any e n hc) (fun b o hc e n => u.free b o e n hc) (fun b o hc e => u.there b o e hc) u.tups u.frzs u.tbls (fun m' hm => by
    obtain ⟨o', es', ep', ho', r'⟩ := hm
    rw [ho] at ho'; cases ho'
    exact ⟨_, es', ep', hL, r'⟩) hok hg
/-- an untracked record of ours (an iterator) has turned -/
theorem Inv.turned {t' : Nat} {it : Addr} (I : Inv X pins σ H s) (k : ∀ b o, b ≠ it → s.heap.get? b = some o → h'.get? b = some o) (hn : H it = none) (hL : it ≠ X.env.locals)
    (h1 : it ∈ X.ex ∨ X.s₀.heap.objs.size ≤ it) (h2 : ∀ x c, X.env.cells.lookup x = some c → c ≠ it) (h3 : ∀ p ∈ X.pn ++ pins, p.1 ≠ it) : Inv X pins σ H { s with heap := h', toks := t' } := by
  have nit : ∀ b u, H b = some u → b ≠ it := fun b u e z => by rw [z, hn] at e; cases e
  refine I.step (g' := s.gens) (d' := s.drawn) (ch := [it]) (fun b hb => ?_) (fun b o _ _ hc e _ => k b o (fun z => hc (by simp [z])) e) (fun b o _ _ hc e _ => ⟨o.slots, k b o (fun z => hc (by simp [z])) e⟩) (fun _ _ _ _ n => n)
    (fun b o hc e => ⟨o, k b o (fun z => hc (by simp [z])) e⟩) (fun _ _ e => e) (fun _ _ _ e => e) (fun b ps e => ⟨#[], by rw [e]; simp⟩) (fun m hm => ?_) (fun b u e => ?_) I.bare
  · have e : b = it := by simpa using hb
    subst e
    exact ⟨h1, hL, h2, h3⟩
  · obtain ⟨o, es, ep, ho, r⟩ := hm
    exact ⟨o, es, ep, k _ o (Ne.symm hL) ho, r⟩
  · refine (I.hok b u e).stay (fun c v hc q => k c v ?_ q) (fun _ q => q) fun _ _ q => q
    rcases hc with z | z
    · rw [z]; exact nit b u e
    · exact nit c _ z
theorem Inv.tok (I : Inv X pins σ H s) (t : Nat) : Inv X pins σ H { s with toks := t } := I.un (h' := s.heap) (t' := t) Un.refl I.hok
/-- all objects kept -/
theorem Inv.kept {t' : Nat} (I : Inv X pins σ H s) (k : ∀ b u, s.heap.get? b = some u → h'.get? b = some u) : Inv X pins σ H { s with heap := h', toks := t' } := I.un (Un.kept k) (I.hok.kept k)
/-- a new object laid and tracked -/
theorem Inv.laid {a : Addr} {o : HO} {t' : Nat} (I : Inv X pins σ H s) (k : ∀ b u, s.heap.get? b = some u → h'.get? b = some u) (hp : s.heap.objs.size ≤ a) (new : ObjOk X.prog X.w (upd H a o) h' a o) :
    Inv X pins σ (upd H a o) { s with heap := h', toks := t' } := I.un (Un.laid k hp (I.hok.fresh hp)) (I.hok.laid k hp new)
/-- an object written -/
theorem Inv.write {x e : Addr} {o : HO} {t' : Nat} (I : Inv X pins σ H s) (mu : Mut (H x)) (he : e = x ∨ H e = some (.own x)) (k : ∀ b u, b ≠ e → s.heap.get? b = some u → h'.get? b = some u) (heo : ∃ u, h'.get? e = some u)
    (new : ObjOk X.prog X.w (upd H x o) h' x o) : Inv X pins σ (upd H x o) { s with heap := h', toks := t' } := I.un (Un.write mu he k heo) (I.hok.write mu he k heo new)
theorem Inv.pins_of {pins' : List (Addr × Obj)} (I : Inv X pins σ H s) (h : ∀ p ∈ pins', s.heap.get? p.1 = some p.2 ∧ H p.1 = none ∧ p.1 ≠ X.env.locals ∧ p.1 ∉ X.fs ∧ ∀ v, p.2.data ≠ .cell v) : Inv X pins' σ H s :=
  ⟨I.ok, I.os, I.bare, I.base, I.loc, I.cell, I.free, I.freeC, fun p hp => (List.mem_append.mp hp).elim (fun z => I.pin p (List.mem_append_left _ z)) (h p), I.hok, I.len⟩

theorem nodup_ix {N : List Str} (hN : N.Nodup) {i j : Nat} {x : Str} (a : N[i]? = some x) (b : N[j]? = some x) : i = j := by
  obtain ⟨h1, e1⟩ := List.getElem?_eq_some_iff.mp a
  obtain ⟨h2, e2⟩ := List.getElem?_eq_some_iff.mp b
  exact (List.getElem_inj hN).mp (e1.trans e2.symm)

/-- a name is stored; what changed -/
theorem store_ok2 {M : Model} {A : Around} {E : Value → Shared → Prop} {i : Nat} {x : Str} {v : V} {u : Value} {Q : Unit → Shared → Prop} (I : Inv X pins σ H s) (hN : X.N.Nodup) (hi : X.N[i]? = some x) (hx : Loc X.env.scope x) (r : RelV v u)
    (h : ∀ s', Inv X pins (σ.set i (some v)) H s' → (∃ a, Heap.SameBut a s.heap s'.heap ∧ (a = X.env.locals ∨ X.env.cells.lookup x = some a)) → Q () s') (hf : X.fn x = true ∨ X.env.scope.names.lookup x = some .local := by first | exact .inl rfl | exact .inr rfl | assumption) : wpAny M A (storeName X.env x u) Q E s := by
  obtain ⟨m, hn, hl⟩ := id I.loc
  have hcls : (X.env.scope.kind == .class || (X.env.scope.kind == .module && X.env.locals != X.env.globals)) = false := by rw [I.ok.kind]; rfl
  have hiσ : i < σ.length := by rw [I.len]; exact (List.getElem?_eq_some_iff.mp hi).1
  have cne := I.cne
  have tracked : ∀ {a : Addr} {h' : Heap}, (∃ o, s.heap.get? a = some o ∧ H a = none) → Heap.SameBut a s.heap h' → HOk X.prog X.w H h' := fun {a h'} ha hs b ob e => by
    obtain ⟨_, _, hfree⟩ := ha
    refine (I.hok b ob e).stay (fun c w' hc q => (hs.2 c ?_).trans q) (fun _ q => q) fun _ _ q => q
    rintro rfl
    rcases hc with rfl | hc
    · rw [hfree] at e; cases e
    · rw [hfree] at hc; cases hc
  rcases hx with hk | hk
  · refine wpAny_storeName_local hk hn (fun h' hn' hs => ?_) hcls
    obtain ⟨oL, _, _, hoL, _⟩ := id hn
    refine h _ ⟨I.ok, I.os, I.bare, ⟨fun b o e n hb hx => ?_, fun b o e n hb hx => ?_, I.base.free, fun b o e hx => ?_, I.base.tups, I.base.frzs, I.base.tbls⟩, ⟨_, hn', fun j y v' e1 e2 e3 => ?_⟩, fun y c e => ?_, I.free, I.freeC, fun p hp => ?_, tracked ⟨oL, hoL, I.free⟩ hs, by simpa using I.len⟩ ⟨_, hs, .inl rfl⟩
    · exact (hs.2 b (Nat.ne_of_lt (Nat.lt_of_lt_of_le (Heap.lt_size e) I.ok.above))).trans (I.base.keep b o e n hb hx)
    · obtain ⟨sl, e1⟩ := I.base.slot b o e n hb hx
      exact ⟨sl, (hs.2 b (Nat.ne_of_lt (Nat.lt_of_lt_of_le (Heap.lt_size e) I.ok.above))).trans e1⟩
    · obtain ⟨o', e1⟩ := I.base.there b o e hx
      exact ⟨o', (hs.2 b (Nat.ne_of_lt (Nat.lt_of_lt_of_le (Heap.lt_size e) I.ok.above))).trans e1⟩
    · by_cases hj : j = i
      · subst hj
        rw [hi] at e1; cases e1
        rw [List.getElem?_set_self hiσ] at e2
        cases e2
        exact ⟨u, r, .inl ⟨hk, by simp⟩⟩
      · rw [List.getElem?_set_ne (Ne.symm hj)] at e2
        obtain ⟨u', r', q⟩ := hl j y v' e1 e2 e3
        refine ⟨u', r', ?_⟩
        rcases q with ⟨k, e⟩ | ⟨k, c, e, z⟩
        · refine .inl ⟨k, ?_⟩
          have : y ≠ x := fun e => hj (nodup_ix hN e1 (e ▸ hi))
          simp [this, e]
        · exact .inr ⟨k, c, e, z.sameBut hs (cne y c e)⟩
    · obtain ⟨w', z⟩ := I.cell y c e
      exact ⟨w', z.sameBut hs (cne y c e)⟩
    · obtain ⟨e, n, ne, nf, d⟩ := I.pin p hp
      exact ⟨(hs.2 p.1 ne).trans e, n, ne, nf, d⟩
  · have hfn : X.fn x = true := by
      rcases hf with z | z
      · exact z
      · rw [z] at hk; cases hk
    obtain ⟨c, hc⟩ := I.ok.has x (.inl hk)
    obtain ⟨w', z⟩ := I.cell x c hc
    refine wpAny_storeName_cell I.ok.kind hk hc z (fun h' hc' hs => ?_)
    obtain ⟨oc, hoc, hocd⟩ := id z
    refine h { s with heap := h' } ⟨I.ok, I.os, I.bare, ⟨fun b o e n hb hx => ?_, fun b o e n hb hx => ?_, I.base.free, fun b o e hx => ?_, I.base.tups, I.base.frzs, I.base.tbls⟩, ⟨m, hn.sameBut hs (Ne.symm (cne x c hc)), fun j y v' e1 e2 e3 => ?_⟩, fun y c' e => ?_, I.free, I.freeC, fun p hp => ?_, tracked ⟨oc, hoc, I.freeC x c hc⟩ hs, by simpa using I.len⟩ ⟨c, hs, .inr hc⟩
    · exact (hs.2 b (Nat.ne_of_lt (Nat.lt_of_lt_of_le (Heap.lt_size e) (I.ok.cab x c hfn hc)))).trans (I.base.keep b o e n hb hx)
    · obtain ⟨sl, e1⟩ := I.base.slot b o e n hb hx
      exact ⟨sl, (hs.2 b (Nat.ne_of_lt (Nat.lt_of_lt_of_le (Heap.lt_size e) (I.ok.cab x c hfn hc)))).trans e1⟩
    · obtain ⟨o', e1⟩ := I.base.there b o e hx
      exact ⟨o', (hs.2 b (Nat.ne_of_lt (Nat.lt_of_lt_of_le (Heap.lt_size e) (I.ok.cab x c hfn hc)))).trans e1⟩
    · by_cases hj : j = i
      · subst hj
        rw [hi] at e1; cases e1
        rw [List.getElem?_set_self hiσ] at e2
        cases e2
        exact ⟨u, r, .inr ⟨.inl hk, c, hc, hc'⟩⟩
      · rw [List.getElem?_set_ne (Ne.symm hj)] at e2
        obtain ⟨u', r', q⟩ := hl j y v' e1 e2 e3
        refine ⟨u', r', ?_⟩
        rcases q with q | ⟨k, c', e, z'⟩
        · exact .inl q
        · refine .inr ⟨k, c', e, z'.sameBut hs ?_⟩
          rintro rfl
          exact hj (nodup_ix hN e1 (I.ok.inj _ _ _ e hc ▸ hi))
    · by_cases hcc : c' = c
      · subst hcc; exact ⟨_, hc'⟩
      · obtain ⟨w2, z2⟩ := I.cell y c' e
        exact ⟨w2, z2.sameBut hs hcc⟩
    · obtain ⟨e, n, ne, nf, d⟩ := I.pin p hp
      refine ⟨(hs.2 p.1 ?_).trans e, n, ne, nf, d⟩
      intro q
      rw [q, hoc] at e
      have q' : oc = p.2 := Option.some.inj e
      exact d w' (by rw [← q']; exact hocd)
theorem store_ok {M : Model} {A : Around} {E : Value → Shared → Prop} {i : Nat} {x : Str} {v : V} {u : Value} {Q : Unit → Shared → Prop} (I : Inv X pins σ H s) (hN : X.N.Nodup) (hi : X.N[i]? = some x) (hx : Loc X.env.scope x) (r : RelV v u)
    (h : ∀ s', Inv X pins (σ.set i (some v)) H s' → Q () s') (hf : X.fn x = true ∨ X.env.scope.names.lookup x = some .local := by first | exact .inl rfl | exact .inr rfl | assumption) : wpAny M A (storeName X.env x u) Q E s :=
  store_ok2 I hN hi hx r (fun s' I' _ => h s' I') hf
/-- behind a call or a block, the state as it is -/
theorem Inv.call' {s' : Shared} {ch : List Addr} (I : Inv X pins σ H s) (ho : s'.os = s.os) (u : Un (frs X.stack) ch H H' s.heap s'.heap) (hok : HOk X.prog X.w H' s'.heap) (hg : AllBare s'.gens)
    (hch : ∀ b ∈ ch, (b ∈ X.ex ∨ X.s₀.heap.objs.size ≤ b) ∧ b ≠ X.env.locals ∧ (∀ x c, X.env.cells.lookup x = some c → c ≠ b) ∧ ∀ p ∈ X.pn ++ pins, p.1 ≠ b) : Inv X pins σ H' s' := by
  obtain ⟨h', g', d', t', o'⟩ := s'
  have e : o' = s.os := ho
  subst e
  exact I.call (g' := g') (t' := t') (d' := d') u hok hg hch
end

/-! ### the judgements -/
/-- an exception: its class, its own dict's address (where it has one), the abstract heap behind it -/
abbrev XK := Value → Option Addr → Hp → Prop
abbrev St := List (Option V)
abbrev VK := V → Hp → Prop
/-- an expression's reading; a test's; an argument list's -/
abbrev TE := St → Hp → VK → Prop
abbrev TT := St → Hp → (Bool → Hp → Prop) → Prop
abbrev TA := St → Hp → (List V → Hp → Prop) → Prop
/-- what is wanted behind a statement -/
structure Ends where
  nx : St → Hp → Prop
  rt : VK
  bk : St → Hp → Prop := fun _ _ => False
  ct : St → Hp → Prop := fun _ _ => False
abbrev TS := Ends → St → Hp → Prop

def EP (X : Cx) (pins : List (Addr × Obj)) (σ : St) (Q : VK) (u : Value) (s' : Shared) : Prop := ∃ v H', Inv X pins σ H' s' ∧ RelV v u ∧ Q v H'
def TP (X : Cx) (pins : List (Addr × Obj)) (σ : St) (Q : Bool → Hp → Prop) (b : Bool) (s' : Shared) : Prop := ∃ H', Inv X pins σ H' s' ∧ Q b H'
def AP (X : Cx) (pins : List (Addr × Obj)) (σ : St) (Q : List V → Hp → Prop) (us : List Value) (s' : Shared) : Prop := ∃ vs H', Inv X pins σ H' s' ∧ Vals vs us ∧ Q vs H'
def SP (X : Cx) (pins : List (Addr × Obj)) (D : Ends) (f : Flow) (s' : Shared) : Prop :=
  match f with
  | .next => ∃ σ' H', Inv X pins σ' H' s' ∧ D.nx σ' H'
  | .brk => ∃ σ' H', Inv X pins σ' H' s' ∧ D.bk σ' H'
  | .cont => ∃ σ' H', Inv X pins σ' H' s' ∧ D.ct σ' H'
  | .ret u => ∃ v σ' H', Inv X pins σ' H' s' ∧ RelV v u ∧ D.rt v H'

def PE (X : Cx) (e : Expr) (t : TE) : Prop :=
  ∀ (pins : List (Addr × Obj)) (s : Shared) (σ : St) (H : Hp) (Q : VK), Inv X pins σ H s → t σ H Q → wpAny (model X.prog X.w) X.A (eval e X.env) (EP X pins σ Q) X.xe s
def PT (X : Cx) (e : Expr) (t : TT) : Prop :=
  ∀ (pins : List (Addr × Obj)) (s : Shared) (σ : St) (H : Hp) (Q : Bool → Hp → Prop), Inv X pins σ H s → t σ H Q → wpAny (model X.prog X.w) X.A (isTrue e X.env (eval e X.env)) (TP X pins σ Q) X.xe s
/-- a test whatever its 'whole' is (and, or) -/
def PW (X : Cx) (e : Expr) (t : TT) : Prop :=
  ∀ (whole : Sem Value) (pins : List (Addr × Obj)) (s : Shared) (σ : St) (H : Hp) (Q : Bool → Hp → Prop), Inv X pins σ H s → t σ H Q → wpAny (model X.prog X.w) X.A (isTrue e X.env whole) (TP X pins σ Q) X.xe s
theorem PW.pt {X : Cx} {e : Expr} {t : TT} (h : PW X e t) : PT X e t := h _
/-- an argument list (no star), from the left -/
def PA (X : Cx) (es : List Expr) (t : TA) : Prop :=
  ∀ (pos : Pos) (pins : List (Addr × Obj)) (s : Shared) (σ : St) (H : Hp) (Q : List V → Hp → Prop), Inv X pins σ H s → t σ H Q → wpAny (model X.prog X.w) X.A (spliced (backTo pos (starEach es X.env))) (AP X pins σ Q) X.xe s
def PS (X : Cx) (st : Stmt) (t : TS) : Prop :=
  ∀ (pins : List (Addr × Obj)) (s : Shared) (σ : St) (H : Hp) (D : Ends), Inv X pins σ H s → t D σ H → wpAny (model X.prog X.w) X.A (exec st X.env) (SP X pins D) X.xe s
def PSs (X : Cx) (st : List Stmt) (t : TS) : Prop :=
  ∀ (pins : List (Addr × Obj)) (s : Shared) (σ : St) (H : Hp) (D : Ends), Inv X pins σ H s → t D σ H → wpAny (model X.prog X.w) X.A (execs st X.env) (SP X pins D) X.xe s
/-- weaken the end -/
theorem thn {α : Type} {t : Sem α} {Q Q' : α → Shared → Prop} {M : Model} {A : Around} {E : Value → Shared → Prop} {s : Shared} (h : wpAny M A t Q E s) (hQ : ∀ a s, Q a s → Q' a s) : wpAny M A t Q' E s := wpAny_mono h hQ fun _ _ x => x
end L2

namespace L2
open PySem PySem.Spec PyProof.Rows
section
variable {X : Cx}

/-- two expressions in a row -/
theorem bin {a b : Expr} {ta tb : TE} (ha : PE X a ta) (hb : PE X b tb) {pins : List (Addr × Obj)} {s : Shared} {σ : St} {H : Hp} {R : V → V → Hp → Prop} (I : Inv X pins σ H s) (h : ta σ H fun x H1 => tb σ H1 fun y H2 => R x y H2)
    {α : Type} {Q : α → Shared → Prop} {f : Value → Value → Sem α}
    (hf : ∀ v u s2 x y H2, Inv X pins σ H2 s2 → RelV x v → RelV y u → R x y H2 → wpAny (model X.prog X.w) X.A (f v u) Q X.xe s2) :
    wpAny (model X.prog X.w) X.A (eval a X.env) (fun v s₁ => wpAny (model X.prog X.w) X.A (eval b X.env) (fun u s₂ => wpAny (model X.prog X.w) X.A (f v u) Q X.xe s₂) X.xe s₁) X.xe s := by
  refine thn (ha pins s σ H _ I h) fun v s1 ⟨x, H1, I1, r1, q1⟩ => ?_
  refine thn (hb pins s1 σ H1 _ I1 q1) fun u s2 ⟨y, H2, I2, r2, q2⟩ => ?_
  exact hf v u s2 x y H2 I2 r1 r2 q2

/-! ### names and constants -/
def tVar (i : Nat) : TE := fun σ H Q => ∃ v, σ[i]? = some (some v) ∧ Q v H
def tC (v : V) : TE := fun _ H Q => Q v H
theorem pe_var {i : Nat} {x : Str} {pos : Pos} (hN : X.N[i]? = some x) (hv : Vis X.env.scope x) (hd : (x == ("__debug__" : Str)) = false := by decide) (hcd : (x == ("__classdict__" : Str)) = false := by decide) : PE X (.Name x pos) (tVar i) := by
  intro pins s σ H Q I h
  obtain ⟨v, e, h⟩ := h
  obtain ⟨m, hn, hl⟩ := I.loc
  obtain ⟨u, r, l⟩ := hl i x v hN e hv
  have fin : EP X pins σ Q u s := ⟨v, H, I, r, h⟩
  rcases l with ⟨hk, hm⟩ | ⟨hk, c, hc, hcell⟩
  · exact wpAny_Name (wpAny_loadName_local I.ok.kind hk hn hm fin) hd
  · rcases hk with hk | hk
    · exact wpAny_Name (wpAny_loadName_cell I.ok.kind hk hc hcell fin) hd
    · exact wpAny_Name (wpAny_loadName_free I.ok.kind hk hc hcell fin hcd) hd
theorem pe_int {i j pos} : PE X (.Constant (.int i) j pos) (tC (.int i)) := fun _ _ _ H _ I h => wpAny_Constant_int ⟨.int i, H, I.tok _, ⟨_, rfl⟩, h⟩
theorem pe_bl {b j pos} : PE X (.Constant (.bool b) j pos) (tC (.bl b)) := fun _ _ _ H _ I h => Constant_bool ⟨.bl b, H, I, rfl, h⟩
theorem pe_non {j pos} : PE X (.Constant .none j pos) (tC .non) := fun _ _ _ H _ I h => Constant_none ⟨.non, H, I, rfl, h⟩
theorem pe_str {x j pos} : PE X (.Constant (.str x) j pos) (tC (.str x)) := fun _ _ _ H _ I h => Calls.Constant_str ⟨.str x, H, I.tok _, ⟨_, rfl⟩, h⟩

/-- a global name of the def -/
def Gl (X : Cx) (x : Str) : Prop := X.env.kindOf x = some .globalImplicit
theorem ld_glob {E : Value → Shared → Prop} {pins : List (Addr × Obj)} {s : Shared} {σ : St} {H : Hp} {x : Str} {u : Value} {pos : Pos} {Q : Value → Shared → Prop} (I : Inv X pins σ H s) (hg : Gl X x) (hm : X.mg x = some u) (h : Q u s)
    (hd : (x == ("__debug__" : Str)) = false := by decide) : wpAny (model X.prog X.w) X.A (eval (.Name x pos) X.env) Q E s :=
  Calls.Name_function_global I.ok.kind hg (Calls.loadGlobal_global (by rw [I.ok.glob]; exact I.mod.glob.keeps I.bk) hm h) hd
theorem ld_blt {E : Value → Shared → Prop} {pins : List (Addr × Obj)} {s : Shared} {σ : St} {H : Hp} {x : Str} {u : Value} {pos : Pos} {Q : Value → Shared → Prop} (I : Inv X pins σ H s) (hg : Gl X x) (hm : X.mg x = none) (hv : bootBuiltins x = some u) (h : Q u s)
    (hn : x ≠ "__name__" := by decide) (hd : (x == ("__debug__" : Str)) = false := by decide) : wpAny (model X.prog X.w) X.A (eval (.Name x pos) X.env) Q E s := by
  obtain ⟨mb, h1, h2⟩ := I.mod.blt
  exact Calls.Name_function_global I.ok.kind hg (Calls.loadGlobal_builtin (by rw [I.ok.glob]; exact I.mod.glob.keeps I.bk) hm (by rw [I.ok.blt]; exact h1.keeps I.bk) ((h2 x hn).trans hv) h) hd
/-- a module's constant, a class, a function, as a value -/
theorem pe_glob {x : Str} {v : V} {u : Value} {pos : Pos} (hg : Gl X x) (hm : X.mg x = some u) (r : RelV v u) (hd : (x == ("__debug__" : Str)) = false := by decide) : PE X (.Name x pos) (tC v) :=
  fun _ _ _ H _ I h => ld_glob I hg hm ⟨v, H, I, r, h⟩ hd
theorem pe_bltn {x : Str} {v : V} {u : Value} {pos : Pos} (hg : Gl X x) (hm : X.mg x = none) (hv : bootBuiltins x = some u) (r : RelV v u) (hn : x ≠ "__name__" := by decide) (hd : (x == ("__debug__" : Str)) = false := by decide) : PE X (.Name x pos) (tC v) :=
  fun _ _ _ H _ I h => ld_blt I hg hm hv ⟨v, H, I, r, h⟩ hn hd

/-! ### arithmetic -/
/-- two ints -/
def t2I (ta tb : TE) (k : Int → Int → Hp → Prop) : St → Hp → Prop := fun σ H => ta σ H fun x H1 => tb σ H1 fun y H2 => ∃ i j, x = .int i ∧ y = .int j ∧ k i j H2
def tAdd (ta tb : TE) : TE := fun σ H Q => t2I ta tb (fun i j H2 => Q (.int (i + j)) H2) σ H
def tSub (ta tb : TE) : TE := fun σ H Q => t2I ta tb (fun i j H2 => Q (.int (i - j)) H2) σ H
/-- the left factor below 2^64 -/
def tMul (ta tb : TE) : TE := fun σ H Q => t2I ta tb (fun i j H2 => (-(2 ^ 64) < i ∧ i < 2 ^ 64) ∧ Q (.int (i * j)) H2) σ H
variable {a b : Expr} {ta tb : TE} {pos : Pos}

/-! ### comparisons -/
def PC (X : Cx) (op : CmpOp) (a b : Expr) (t : TE) : Prop :=
  ∀ (pins : List (Addr × Obj)) (s : Shared) (σ : St) (H : Hp) (Q : VK), Inv X pins σ H s → t σ H Q →
    wpAny (model X.prog X.w) X.A (eval a X.env) (fun v s₁ => wpAny (model X.prog X.w) X.A (eval b X.env) (fun u s₂ => wpAny (model X.prog X.w) X.A (compareOp op v u) (EP X pins σ Q) X.xe s₂) X.xe s₁) X.xe s
theorem nobehind (b : Expr) {op : CmpOp} (h : op ≠ .In) (h2 : op ≠ .NotIn) : behindInMarks op b = false := by
  have e1 : (op == CmpOp.In) = false := by cases op <;> first | rfl | exact absurd rfl h
  have e2 : (op == CmpOp.NotIn) = false := by cases op <;> first | rfl | exact absurd rfl h2
  cases b <;> simp [behindInMarks, e1, e2]
def tCmp (p : Int → Int → Bool) (ta tb : TE) : TE := fun σ H Q => t2I ta tb (fun i j H2 => Q (.bl (p i j)) H2) σ H
abbrev tLt : TE → TE → TE := tCmp fun i j => decide (i < j)
abbrev tLe : TE → TE → TE := tCmp fun i j => decide (i ≤ j)
abbrev tGt : TE → TE → TE := tCmp fun i j => decide (j < i)
abbrev tGe : TE → TE → TE := tCmp fun i j => decide (j ≤ i)
abbrev tEqI : TE → TE → TE := tCmp fun i j => decide (i = j)
abbrev tNeI : TE → TE → TE := tCmp fun i j => !decide (i = j)
/-- is None -/
def tIsN (ta : TE) : TE := fun σ H Q => ta σ H fun x H1 => Q (.bl (decide (x = .non))) H1
def tNotN (ta : TE) : TE := fun σ H Q => ta σ H fun x H1 => Q (.bl (!decide (x = .non))) H1
/-- a comparison as a value, as a test -/
def tB (t : TE) : TT := fun σ H Q => t σ H fun x H1 => ∃ c, x = .bl c ∧ Q c H1
theorem pe_cmp {op : CmpOp} {t : TE} (h : PC X op a b t) (h1 : behindInMarks op b = false := by first | exact nobehind _ (by decide) (by decide) | rfl) : PE X (.Compare a [op] [b] pos) t := fun pins s σ H Q I hw => wpAny_Compare1 (h pins s σ H Q I hw) h1
theorem pt_cmp {op : CmpOp} {t : TE} (h : PC X op a b t) (h1 : behindInMarks op b = false := by first | exact nobehind _ (by decide) (by decide) | rfl) : PT X (.Compare a [op] [b] pos) (tB t) := by
  intro pins s σ H Q I hw
  refine wpAny_isTrue_Compare1 (thn (h pins s σ H _ I hw) fun v s1 h1 => thn h1 fun u s2 h2 => thn h2 fun c s3 ⟨x, H1, I1, r1, q1⟩ => ?_) h1
  obtain ⟨d, rfl, q⟩ := q1
  cases r1
  exact wpAny_truthy_bool ⟨H1, I1, q⟩
/-- an expression whose value is a bool, as a test -/
theorem pt_val {e : Expr} {t : TE} (h : PE X e t) (he : ∀ whole, isTrue e X.env whole = (do let v ← whole; standAt e.pos; holding [v] (truthy v)) := by intro _; rfl) : PT X e (tB t) := by
  intro pins s σ H Q I hw
  refine isTrue_plain (thn (h pins s σ H _ I hw) fun v s1 ⟨x, H1, I1, r1, q1⟩ => ?_) (he _)
  obtain ⟨d, rfl, q⟩ := q1
  cases r1
  exact wpAny_truthy_bool ⟨H1, I1, q⟩

/-! ### and, or, not -/
variable {tA tB' : TT} {rest : List Expr}
def tAnd (t u : TT) : TT := fun σ H Q => t σ H fun c H1 => if c = true then u σ H1 Q else Q false H1
def tOr (t u : TT) : TT := fun σ H Q => t σ H fun c H1 => if c = true then Q true H1 else u σ H1 Q
def tNot (t : TT) : TT := fun σ H Q => t σ H fun c H1 => Q (!c) H1
theorem pw_and1 (ha : PT X a tA) : PW X (.BoolOp .And [a] pos) tA := by
  intro wh pins s σ H Q I h
  refine isTrue_and (thn (ha pins s σ H Q I h) fun c s1 e => ?_)
  cases c with
  | true => exact isTrue_and_nil e
  | false => exact e
theorem pw_or1 (ha : PT X a tA) : PW X (.BoolOp .Or [a] pos) tA := by
  intro wh pins s σ H Q I h
  refine isTrue_or (thn (ha pins s σ H Q I h) fun c s1 e => ?_)
  cases c with
  | false => exact isTrue_or_nil e
  | true => exact e
theorem pw_and (ha : PT X a tA) (hb : PW X (.BoolOp .And (b :: rest) pos) tB') : PW X (.BoolOp .And (a :: b :: rest) pos) (tAnd tA tB') := by
  intro wh pins s σ H Q I h
  refine isTrue_and (thn (ha pins s σ H _ I h) fun c s1 ⟨H1, I1, q1⟩ => ?_)
  cases c with
  | true => exact hb wh pins s1 σ H1 Q I1 q1
  | false => exact ⟨H1, I1, q1⟩
theorem pw_or (ha : PT X a tA) (hb : PW X (.BoolOp .Or (b :: rest) pos) tB') : PW X (.BoolOp .Or (a :: b :: rest) pos) (tOr tA tB') := by
  intro wh pins s σ H Q I h
  refine isTrue_or (thn (ha pins s σ H _ I h) fun c s1 ⟨H1, I1, q1⟩ => ?_)
  cases c with
  | true => exact ⟨H1, I1, q1⟩
  | false => exact hb wh pins s1 σ H1 Q I1 q1
theorem pt_not (ha : PT X a tA) : PT X (.UnaryOp .Not a pos) (tNot tA) := by
  intro pins s σ H Q I h
  exact isTrue_not (ha pins s σ H (fun c H1 => Q (!c) H1) I h)
/-- .. as values (bools) -/
def tAndV (ta tb : TE) : TE := fun σ H Q => ta σ H fun x H1 => ∃ c, x = .bl c ∧ if c = true then tb σ H1 Q else Q (.bl false) H1
def tOrV (ta tb : TE) : TE := fun σ H Q => ta σ H fun x H1 => ∃ c, x = .bl c ∧ if c = true then Q (.bl true) H1 else tb σ H1 Q
def tNotV (ta : TE) : TE := fun σ H Q => ta σ H fun x H1 => ∃ c, x = .bl c ∧ Q (.bl (!c)) H1
theorem pe_one {op} {t : TE} (h : PE X a t) : PE X (.BoolOp op [a] pos) t := fun pins s σ H Q I hw => BoolOp_one (h pins s σ H Q I hw)
theorem pe_and (ha : PE X a ta) (hb : PE X (.BoolOp .And (b :: rest) pos) tb) : PE X (.BoolOp .And (a :: b :: rest) pos) (tAndV ta tb) := by
  intro pins s σ H Q I h
  refine BoolOp_and (thn (ha pins s σ H _ I h) fun v s1 ⟨x, H1, I1, r1, q1⟩ => ?_)
  obtain ⟨c, rfl, q1⟩ := q1
  cases r1
  refine wpAny_truthy_bool ?_
  cases c with
  | true => exact hb pins s1 σ H1 Q I1 q1
  | false => exact ⟨.bl false, H1, I1, rfl, q1⟩
/-- a if t else b -/
def tIf (t : TT) (ta tb : TE) : TE := fun σ H Q => t σ H fun c H1 => if c = true then ta σ H1 Q else tb σ H1 Q
end
end L2

namespace L2
open PySem PySem.Spec PyProof.Rows

/-! ### a list, a tuple that is read: tracked, frozen, or an object of the module -/
def SqL (K : PySem.W.Frag) (H : Hp) (a : Addr) (xs : List V) : Prop :=
  Rd H a (.lst xs) ∨
    ∃ (o : Obj) (its : Array Value) (n : Nat), K.lookup a = some o ∧ o.cls = .type "list" ∧ o.dict = none ∧ o.data = .seq its n ∧ its.size ≤ sizeLine ∧ Vals xs its.toList
def SqT (K : PySem.W.Frag) (H : Hp) (a : Addr) (xs : List V) : Prop :=
  Rd H a (.tup xs) ∨
    ∃ (o : Obj) (its : Array Value) (n : Nat), K.lookup a = some o ∧ o.cls = .type "tuple" ∧ o.data = .seq its n ∧ its.size ≤ sizeLine ∧ Vals xs its.toList
def absV : Value → Option V
  | .none => some .non
  | .bool b => some (.bl b)
  | .int i _ => some (.int i)
  | .str x _ => some (.str x)
  | .bytes b _ => some (.byt b)
  | .float b _ => some (.flt b)
  | .ref a => some (.ref a)
  | .type n => some (.ty n)
  | _ => none
theorem RelV.abs {x : V} {u : Value} (r : RelV x u) : absV u = some x := by
  cases x with
  | non => cases r; rfl
  | bl _ => cases r; rfl
  | int _ => obtain ⟨t, rfl⟩ := r; rfl
  | str _ => obtain ⟨t, rfl⟩ := r; rfl
  | byt _ => obtain ⟨t, rfl⟩ := r; rfl
  | flt _ => obtain ⟨t, rfl⟩ := r; rfl
  | ref _ => cases r; rfl
  | ty _ => cases r; rfl
theorem RelV.inj {x y : V} {u : Value} (r : RelV x u) (q : RelV y u) : x = y := Option.some.inj (r.abs.symm.trans q.abs)
theorem Vals.inj : ∀ {xs ys : List V} {us : List Value}, Vals xs us → Vals ys us → xs = ys
  | _, _, _, .nil, .nil => rfl
  | _, _, _, .cons r t, .cons r' t' => by rw [r.inj r', Vals.inj t t']
section
variable {X : Cx} {pins : List (Addr × Obj)} {σ : St} {H : Hp} {s : Shared} {a : Addr} {xs ys : List V}
theorem SqL.of {K : PySem.W.Frag} (h : H a = some (.lst xs)) : SqL K H a xs := .inl (.inl h)
theorem SqT.of {K : PySem.W.Frag} (h : H a = some (.tup xs)) : SqT K H a xs := .inl (.inl h)
theorem Inv.list (I : Inv X pins σ H s) (h : SqL X.K H a xs) : ∃ its : List Value, Vals xs its ∧ PlainL s.heap a its.toArray ∧ xs.length ≤ sizeLine := by
  rcases h with h | ⟨o, its, n, hk, hc, hd, hs, hz, r⟩
  · obtain ⟨z, its, n, r, e⟩ := h.ok I.hok
    exact ⟨its, r, ⟨_, n, e, rfl, rfl, rfl⟩, z⟩
  · refine ⟨its.toList, r, ⟨o, n, I.kIn a o hk, hc, hd, by simpa using hs⟩, ?_⟩
    have e := r.length
    simp only [Array.length_toList] at e
    omega
theorem Inv.tuple (I : Inv X pins σ H s) (h : SqT X.K H a xs) : ∃ its : List Value, Vals xs its ∧ IsTup s.heap a its.toArray ∧ xs.length ≤ sizeLine := by
  rcases h with h | ⟨o, its, n, hk, hc, hs, hz, r⟩
  · obtain ⟨z, its, r, p⟩ := h.ok I.hok
    exact ⟨its, r, p, z⟩
  · refine ⟨its.toList, r, ⟨o, I.kIn a o hk, hc, n, by simpa using hs⟩, ?_⟩
    have e := r.length
    simp only [Array.length_toList] at e
    omega
theorem Inv.list_inj (I : Inv X pins σ H s) (h : SqL X.K H a xs) (h' : SqL X.K H a ys) : xs = ys := by
  obtain ⟨its, r, ⟨o, n, e, _, _, d⟩, _⟩ := I.list h
  obtain ⟨its', r', ⟨o', n', e', _, _, d'⟩, _⟩ := I.list h'
  rw [e] at e'; cases e'
  rw [d] at d'
  injection d' with d1 _
  have : its = its' := by simpa using congrArg Array.toList d1
  subst this
  exact r.inj r'
end

/-! ### another wish about exceptions -/
abbrev Cx.wish (X : Cx) (E : Value → Shared → Prop) : Cx := { X with xe := E }
/-- no exception leaves -/
abbrev Cx.nox (X : Cx) : Cx := X.wish fun _ _ => False
theorem Cx.Ok.wish {X : Cx} (ok : X.Ok) (E : Value → Shared → Prop) : (X.wish E).Ok :=
  ⟨ok.mod, ok.kind, ok.glob, ok.blt, ok.above, ok.inj, ok.has, ok.cab, ok.hd, ok.frames, ok.stk, ok.exf, ok.bs, ok.bsz, ok.noex, ok.exfs, ok.funs, ok.frf⟩
theorem Cx.Ok.unwish {X : Cx} {E : Value → Shared → Prop} (ok : (X.wish E).Ok) : X.Ok :=
  ⟨ok.mod, ok.kind, ok.glob, ok.blt, ok.above, ok.inj, ok.has, ok.cab, ok.hd, ok.frames, ok.stk, ok.exf, ok.bs, ok.bsz, ok.noex, ok.exfs, ok.funs, ok.frf⟩
section
variable {X : Cx} {pins : List (Addr × Obj)} {σ : St} {H : Hp} {s : Shared} {E : Value → Shared → Prop}
theorem Inv.wish (I : Inv X pins σ H s) (E : Value → Shared → Prop) : Inv (X.wish E) pins σ H s := ⟨I.ok.wish E, I.os, I.bare, I.base, I.loc, I.cell, I.free, I.freeC, I.pin, I.hok, I.len⟩
theorem Inv.unwish (I : Inv (X.wish E) pins σ H s) : Inv X pins σ H s := ⟨I.ok.unwish, I.os, I.bare, I.base, I.loc, I.cell, I.free, I.freeC, I.pin, I.hok, I.len⟩
theorem SP.unwish {D : Ends} {f : Flow} {s' : Shared} (h : SP (X.wish E) pins D f s') : SP X pins D f s' := by
  cases f with
  | next => obtain ⟨σ', H', I, q⟩ := h; exact ⟨σ', H', I.unwish, q⟩
  | brk => obtain ⟨σ', H', I, q⟩ := h; exact ⟨σ', H', I.unwish, q⟩
  | cont => obtain ⟨σ', H', I, q⟩ := h; exact ⟨σ', H', I.unwish, q⟩
  | ret u => obtain ⟨v, σ', H', I, r, q⟩ := h; exact ⟨v, σ', H', I.unwish, r, q⟩
theorem PE.nox {e : Expr} {t : TE} (h : PE X.nox e t) : PE X e t := fun pins s σ H Q I hw =>
  wpAny_mono (h pins s σ H Q (I.wish _) hw) (fun _ _ ⟨v, H', I', r, q⟩ => ⟨v, H', I'.unwish, r, q⟩) fun _ _ z => False.elim z
theorem PT.nox {e : Expr} {t : TT} (h : PT X.nox e t) : PT X e t := fun pins s σ H Q I hw =>
  wpAny_mono (h pins s σ H Q (I.wish _) hw) (fun _ _ ⟨H', I', q⟩ => ⟨H', I'.unwish, q⟩) fun _ _ z => False.elim z
theorem PSs.nox {st : List Stmt} {t : TS} (h : PSs X.nox st t) : PSs X st t := fun pins s σ H D I hw =>
  wpAny_mono (h pins s σ H D (I.wish _) hw) (fun _ _ q => q.unwish) fun _ _ z => False.elim z
end

/-! ### blocks and small statements -/
section
variable {X : Cx} {st : Stmt} {rest : List Stmt} {t u : TS} {e : Expr} {te : TE} {pos : Pos}
def tNext : TS := fun D σ H => D.nx σ H
def tSeq (t u : TS) : TS := fun D σ H => t { D with nx := u D } σ H
theorem pss_nil : PSs X [] tNext := fun _ _ σ H _ I h => wpAny_execs_nil ⟨σ, H, I, h⟩
theorem pss_cons (h1 : PS X st t) (h2 : PSs X rest u) : PSs X (st :: rest) (tSeq t u) := by
  intro pins s σ H D I h
  refine wpAny_execs_cons (thn (h1 pins s σ H { D with nx := u D } I h) fun f s1 q => ?_)
  cases f with
  | next =>
    obtain ⟨σ', H', I', q⟩ := q
    exact h2 pins s1 σ' H' D I' q
  | ret v => exact q
  | brk => exact q
  | cont => exact q
theorem pss_one (h1 : PS X st t) : PSs X [st] t := by
  intro pins s σ H D I h
  refine wpAny_execs_cons (thn (h1 pins s σ H D I h) fun f s1 q => ?_)
  cases f with
  | next => exact wpAny_execs_nil q
  | ret v => exact q
  | brk => exact q
  | cont => exact q
def tBreak : TS := fun D σ H => D.bk σ H
def tCont : TS := fun D σ H => D.ct σ H
/-- in a def's body nothing is shown -/
theorem Inv.quiet {pins : List (Addr × Obj)} {σ : St} {H : Hp} {s : Shared} (I : Inv X pins σ H s) : interactive X.env = false := by simp [interactive, I.ok.kind]
/-- an expression whose value is dropped -/
def tDrop (te : TE) : TS := fun D σ H => te σ H fun _ H1 => D.nx σ H1
theorem ps_expr (he : PE X e te) (hs : swapsWith e none pos.line X.env = pure false := by rfl) : PS X (.Expr e pos) (tDrop te) := by
  intro pins s σ H D I h
  exact wpAny_Expr_any (thn (he pins s σ H _ I h) fun v s1 ⟨x, H1, I1, r1, q1⟩ => ⟨σ, H1, I1, q1⟩) I.quiet hs
def tRet (te : TE) : TS := fun D σ H => te σ H D.rt
theorem ps_ret (he : PE X e te) : PS X (.Return (some e) pos) (tRet te) := by
  intro pins s σ H D I h
  exact wpAny_Return_some (thn (he pins s σ H _ I h) fun v s1 ⟨x, H1, I1, r1, q1⟩ => ⟨x, σ, H1, I1, r1, q1⟩)
def tRetN : TS := fun D _ H => D.rt .non H
def tIfS (c : TT) (t u : TS) : TS := fun D σ H => c σ H fun b H1 => if b = true then t D σ H1 else u D σ H1
theorem ps_if {c : Expr} {a b : List Stmt} {tc : TT} (hc : PT X c tc) (ha : PSs X a t) (hb : PSs X b u) : PS X (.If c a b pos) (tIfS tc t u) := by
  intro pins s σ H D I h
  refine wpAny_If (thn (hc pins s σ H _ I h) fun d s1 ⟨H1, I1, q1⟩ => ?_)
  cases d with
  | true => exact ha pins s1 σ H1 D I1 q1
  | false => exact hb pins s1 σ H1 D I1 q1
/-- code that the proof never comes to -/
def tNever : TS := fun _ _ _ => False
end

/-! ### targets -/
abbrev TG := V → St → Hp → (St → Hp → Prop) → Prop
abbrev TGs := List V → St → Hp → (St → Hp → Prop) → Prop
def PG (X : Cx) (target : Expr) (t : TG) : Prop :=
  ∀ (pins : List (Addr × Obj)) (s : Shared) (σ : St) (H : Hp) (v : V) (u : Value) (Q : St → Hp → Prop), Inv X pins σ H s → RelV v u → t v σ H Q →
    wpAny (model X.prog X.w) X.A (assign target X.env u) (fun _ s' => ∃ σ' H', Inv X pins σ' H' s' ∧ Q σ' H') X.xe s
/-- several targets, one after another -/
def PGs (X : Cx) (ts : List Expr) (t : TGs) : Prop :=
  ∀ (pins : List (Addr × Obj)) (s : Shared) (σ : St) (H : Hp) (vs : List V) (us : List Value) (Q : St → Hp → Prop), Inv X pins σ H s → Vals vs us → t vs σ H Q →
    wpAny (model X.prog X.w) X.A (assignInOrder ((assignEach ts X.env).map (·.2)) us) (fun _ s' => ∃ σ' H', Inv X pins σ' H' s' ∧ Q σ' H') X.xe s
/-- o[i] = v, by values -/
abbrev TSet := V → V → V → Hp → (Hp → Prop) → Prop
def PSet (X : Cx) (t : TSet) : Prop :=
  ∀ (pins : List (Addr × Obj)) (s : Shared) (σ : St) (H : Hp) (o i v : V) (ov iv u : Value) (Q : Hp → Prop), Inv X pins σ H s → RelV o ov → RelV i iv → RelV v u → t o i v H Q →
    wpAny (model X.prog X.w) X.A (setItem ov iv u) (fun _ s' => ∃ H', Inv X pins σ H' s' ∧ Q H') X.xe s
/-- a op= b, by values -/
abbrev TIp := V → V → Hp → VK → Prop
def PIp (X : Cx) (op : Operator) (t : TIp) : Prop :=
  ∀ (pins : List (Addr × Obj)) (s : Shared) (σ : St) (H : Hp) (x y : V) (v u : Value) (Q : VK), Inv X pins σ H s → RelV x v → RelV y u → t x y H Q →
    wpAny (model X.prog X.w) X.A (inplaceOp op v u) (EP X pins σ Q) X.xe s
section
variable {X : Cx} {pos : Pos}
def gName (i : Nat) : TG := fun v σ H Q => Q (σ.set i (some v)) H
theorem pg_name {i : Nat} {x : Str} (hN : X.N.Nodup) (hi : X.N[i]? = some x) (hx : Loc X.env.scope x) (hf : X.fn x = true ∨ X.env.scope.names.lookup x = some .local := by first | exact .inl rfl | exact .inr rfl | assumption) : PG X (.Name x pos) (gName i) := by
  intro pins s σ H v u Q I r h
  exact wpAny_assign_Name (store_ok I hN hi hx r (fun s' I' => ⟨_, H, I', h⟩) hf)
def gNil : TGs := fun vs σ H Q => vs = [] ∧ Q σ H
def gCons (t : TG) (u : TGs) : TGs := fun vs σ H Q => ∃ v r, vs = v :: r ∧ t v σ H fun σ' H' => u r σ' H' Q
theorem pgs_nil : PGs X [] gNil := by
  intro pins s σ H vs us Q I r h
  obtain ⟨e, h⟩ := h
  subst e
  cases r
  exact assignInOrder_nil ⟨σ, H, I, h⟩
theorem pgs_cons {e : Expr} {es : List Expr} {t : TG} {u : TGs} (h1 : PG X e t) (h2 : PGs X es u)
    (hs : (assignEach (e :: es) X.env).map (·.2) = assign e X.env :: (assignEach es X.env).map (·.2) := by rfl) : PGs X (e :: es) (gCons t u) := by
  intro pins s σ H vs us Q I r h
  obtain ⟨v, vr, e1, h⟩ := h
  subst e1
  cases r with
  | cons r rr =>
    rw [hs]
    refine assignInOrder_cons (thn (h1 pins s σ H _ _ _ I r h) fun _ s1 ⟨σ1, H1, I1, q1⟩ => ?_)
    exact h2 pins s1 σ1 H1 _ _ Q I1 rr q1
/-- (a, b, ..) = a tuple of that length -/
def gTup (K : PySem.W.Frag) (n : Nat) (t : TGs) : TG := fun v σ H Q => ∃ a xs, v = .ref a ∧ SqT K H a xs ∧ xs.length = n ∧ t xs σ H Q
theorem pg_tup {es : List Expr} {k : Nat} {t : TGs} {n : Nat} (hc : X.calm = true) (h : PGs X es t)
    (hn : (assignEach es X.env).length = n := by rfl) (hst : (assignEach es X.env).findIdx? (·.1) = none := by rfl) : PG X (.Tuple es k pos) (gTup X.K n t) := by
  intro pins s σ H v u Q I r hw
  obtain ⟨a, xs, e1, hq, hl, hw⟩ := hw
  subst e1
  cases r
  obtain ⟨its, rv, ht, hz⟩ := I.tuple hq
  refine assign_Tuple_tuple (I.ok.hd hc) ht (by simp [hn, ← hl, rv.length]) hst fun h' hx => ?_
  have I1 : Inv X pins σ H { s with heap := h' } := I.kept (t' := s.toks) fun b o e => hx b o (Nat.ne_of_lt (Heap.lt_size e)) e
  exact h pins _ σ H xs _ Q I1 (by simpa using rv) hw
/-- o[i] = .. -/
def gSub (to ti : TE) (t : TSet) : TG := fun v σ H Q => to σ H fun o H1 => ti σ H1 fun i H2 => t o i v H2 fun H3 => Q σ H3
/-- target = value -/
def tAsg (te : TE) (g : TG) : TS := fun D σ H => te σ H fun x H1 => g x σ H1 D.nx
/-- name = value -/
theorem ps_set {i : Nat} {x : Str} {e : Expr} {te : TE} {pos' : Pos} (hN : X.N.Nodup) (hi : X.N[i]? = some x) (hx : Loc X.env.scope x) (he : PE X e te) (hs : swapsWith e (some (.Name x pos')) pos.line X.env = pure false := by rfl) (hf : X.fn x = true ∨ X.env.scope.names.lookup x = some .local := by first | exact .inl rfl | exact .inr rfl | assumption) :
    PS X (.Assign [.Name x pos'] e pos) (tAsg te (gName i)) := by
  intro pins s σ H D I h
  refine wpAny_Assign_Name (thn (he pins s σ H _ I h) fun v s1 ⟨y, H1, I1, r1, q1⟩ => ?_) hs
  exact store_ok I1 hN hi hx r1 (fun s2 I2 => ⟨_, H1, I2, q1⟩) hf
/-- a, b = x, y with plain local names: stored from the right; the pair itself is not tracked (the opening rows as in PyProof/Rows/TupAssign.lean:23) -/
def tPar (i j : Nat) (ta : TA) : TS := fun D σ H => ta σ H fun vs H1 => ∃ v w, vs = [v, w] ∧ D.nx ((σ.set i (some v)).set j (some w)) H1
/-- name op= e -/
def tAug (i : Nat) (te : TE) (ti : TIp) : TS := fun D σ H => ∃ x, σ[i]? = some (some x) ∧ te σ H fun y H1 => ti x y H1 fun z H2 => D.nx (σ.set i (some z)) H2
/-- o[i] op= e -/
def tAugS (to ti te : TE) (tget : V → V → Hp → VK → Prop) (tip : TIp) (tset : TSet) : TS := fun D σ H => to σ H fun o H1 => ti σ H1 fun i H2 => tget o i H2 fun x H3 => te σ H3 fun y H4 => tip x y H4 fun z H5 => tset o i z H5 fun H6 => D.nx σ H6
/-- o[i], by values -/
def PGet (X : Cx) (t : V → V → Hp → VK → Prop) : Prop :=
  ∀ (pins : List (Addr × Obj)) (s : Shared) (σ : St) (H : Hp) (o i : V) (ov iv : Value) (Q : VK), Inv X pins σ H s → RelV o ov → RelV i iv → t o i H Q →
    wpAny (model X.prog X.w) X.A (getItem ov iv) (EP X pins σ Q) X.xe s
/-- ints -/
def ipI (f : Int → Int → Int) : TIp := fun x y H Q => ∃ i j, x = .int i ∧ y = .int j ∧ Q (.int (f i j)) H
end

/-! ### while -/
section
variable {X : Cx} {pos : Pos}
/-- the invariant W with its measure -/
def tWhile (c : TT) (tb : TS) : TS := fun D σ H => ∃ W : Nat → St → Hp → Prop, (∃ m, W m σ H) ∧ ∀ m σ H, W m σ H →
  c σ H fun b H1 => if b = true then ∃ N : St → Hp → Prop, (∀ σ' H', N σ' H' → ∃ m', m' < m ∧ W m' σ' H') ∧ tb { D with nx := N, ct := N, bk := D.nx } σ H1 else D.nx σ H1
end

/-! ### what a loop or a comprehension walks -/
/-- at turn i: it yields x (the heap may grow), or it stops -/
structure It where
  go : Nat → Hp → Prop
  yld : Nat → Hp → V → Hp → Prop
  stop : Nat → Hp → Prop
/-- the iterator's own objects may turn: they are not the frame's, not pinned, younger than the entry (or a comprehension's own) -/
def FpOk (X : Cx) (pins : List (Addr × Obj)) (H : Hp) (b : Addr) : Prop :=
  H b = none ∧ b ≠ X.env.locals ∧ b ∉ X.fs ∧ (b ∈ X.ex ∨ X.s₀.heap.objs.size ≤ b) ∧ (∀ x c, X.env.cells.lookup x = some c → c ≠ b) ∧ ∀ p ∈ X.pn ++ pins, p.1 ≠ b
theorem Inv.fpOk {X : Cx} {pins : List (Addr × Obj)} {σ : St} {H H' : Hp} {s : Shared} {b : Addr} (I : Inv X pins σ H s) (hb : s.heap.objs.size ≤ b) (hn : H' b = none) : FpOk X pins H' b := by
  refine ⟨hn, Nat.ne_of_gt (Nat.lt_of_lt_of_le I.lt hb), I.nofs hb, .inr (Nat.le_trans I.sz hb), fun x c e z => ?_, fun p hp z => ?_⟩
  · obtain ⟨v, q⟩ := I.cell x c e
    exact absurd (Nat.lt_of_lt_of_le q.lt (by rw [z]; exact hb)) (Nat.lt_irrefl _)
  · exact absurd (Nat.lt_of_lt_of_le (Heap.lt_size (I.pin p hp).1) (by rw [z]; exact hb)) (Nat.lt_irrefl _)
structure Turn (P : Program) (w : World) (K : PySem.W.Frag) (tg : Expr) (J : It) (fp : List Addr) (it : Addr) (tn : Nat → Heap → Prop) : Prop where
  mem : it ∈ fp
  obj : ∀ i h, tn i h → ∀ b ∈ fp, ∃ o, h.get? b = some o ∧ ∀ v, o.data ≠ .cell v
  keep : ∀ i h h', tn i h → (∀ b ∈ fp, ∀ o, h.get? b = some o → h'.get? b = some o) → tn i h'
  item : ∀ (X : Cx), X.prog = P → X.w = w → X.K = K → X.calm = true → ∀ (i : Nat) (pins : List (Addr × Obj)) (s : Shared) (σ : St) (H : Hp) (E : Value → Shared → Prop), Inv X pins σ H s → (∀ b ∈ fp, FpOk X pins H b) → tn i s.heap → J.go i H →
    wpAny (model P w) X.A (pyNext (.ref it)) (fun r s1 => ∃ u, r = some u ∧
      wpAny (model P w) X.A (letOwnedTupleGo tg (.ref it) u) (fun _ s2 => ∃ x H', Inv X pins σ H' s2 ∧ RelV x u ∧ J.yld i H x H' ∧ tn (i + 1) s2.heap ∧ ∀ b ∈ fp, H' b = none) E s1) E s
  done : ∀ (X : Cx), X.prog = P → X.w = w → X.K = K → X.calm = true → ∀ (i : Nat) (pins : List (Addr × Obj)) (s : Shared) (σ : St) (H : Hp) (E : Value → Shared → Prop), Inv X pins σ H s → (∀ b ∈ fp, FpOk X pins H b) → tn i s.heap → J.stop i H →
    wpAny (model P w) X.A (pyNext (.ref it)) (fun r s1 => r = none ∧ Inv X pins σ H s1) E s
  self : ∀ (A : Around) (i : Nat) (s : Shared) (Q : Value → Shared → Prop) (E : Value → Shared → Prop), tn i s.heap → Q (.ref it) s → wpAny (model P w) A (pyIter (.ref it)) Q E s
abbrev TI := St → Hp → (It → Hp → Prop) → Prop
/-- an iterator has come -/
def PIE (X : Cx) (pins : List (Addr × Obj)) (σ : St) (tg : Expr) (R : It → Hp → Prop) (itv : Value) (s2 : Shared) : Prop :=
  ∃ (it : Addr) (fp : List Addr) (tn : Nat → Heap → Prop) (J : It) (H' : Hp), itv = .ref it ∧ Inv X pins σ H' s2 ∧ Turn X.prog X.w X.K tg J fp it tn ∧ tn 0 s2.heap ∧ (∀ b ∈ fp, FpOk X pins H' b) ∧ R J H'
def PI (X : Cx) (tg iter : Expr) (wi : TI) : Prop :=
  ∀ (pins : List (Addr × Obj)) (s : Shared) (σ : St) (H : Hp) (R : It → Hp → Prop), Inv X pins σ H s → wi σ H R →
    wpAny (model X.prog X.w) X.A (eval iter X.env) (fun v s1 => wpAny (model X.prog X.w) X.A (pyIter v) (PIE X pins σ tg R) X.xe s1) X.xe s

/-- the step ahead of the store is nothing for an iterator that keeps no tuple -/
theorem go_of {M : Model} {A : Around} {E : Value → Shared → Prop} {s : Shared} {tg : Expr} {it : Addr} {u : Value} {o : Obj} {n : String} {vs : Array Value} {Q : Unit → Shared → Prop} (ho : s.heap.get? it = some o) (hc : o.cls = .type n) (hd : o.data = .fields vs)
    (hn : ["enumerate", "zip", "dict_itemiterator", "dict_reverseitemiterator", "odict_iterator", "itertools.zip_longest", "itertools.pairwise"].contains n = false) (hQ : Q () s) : wpAny M A (letOwnedTupleGo tg (.ref it) u) Q E s := by
  unfold letOwnedTupleGo
  cases tg <;> first
    | exact wpAny_pure hQ
    | (cases u <;> first
        | exact wpAny_pure hQ
        | (refine wpAny_bind (wpAny_load ho ?_)
           rw [hc, hd]
           show wpAny M A (if (["enumerate", "zip", "dict_itemiterator", "dict_reverseitemiterator", "odict_iterator", "itertools.zip_longest", "itertools.pairwise"].contains n && vs[0]? == some (rawInt _)) = true then _ else _) Q E s
           rw [if_neg (by intro h; rw [hn, Bool.false_and] at h; cases h)]
           exact wpAny_pure hQ))

/-- the list at a, as it stands at each turn (a loop may append to it) -/
def Itl (K : PySem.W.Frag) (a : Addr) : It :=
  ⟨fun i H => ∃ xs x, SqL K H a xs ∧ xs[i]? = some x, fun i H x H' => H' = H ∧ ∀ xs, SqL K H a xs → xs[i]? = some x, fun i H => ∃ xs, SqL K H a xs ∧ xs.length ≤ i⟩
def Itt (K : PySem.W.Frag) (a : Addr) : It :=
  ⟨fun i H => ∃ xs x, SqT K H a xs ∧ xs[i]? = some x, fun i H x H' => H' = H ∧ ∀ xs, SqT K H a xs → xs[i]? = some x, fun i H => ∃ xs, SqT K H a xs ∧ xs.length ≤ i⟩
/-- lo, lo + 1, .. (n of them) -/
def Itr (lo : Int) (n : Nat) : It := ⟨fun i _ => i < n, fun i H x H' => H' = H ∧ x = .int (lo + i), fun i _ => n ≤ i⟩
theorem turn_list {P : Program} {w : World} {K : PySem.W.Frag} {tg : Expr} (a it : Addr) : Turn P w K tg (Itl K a) [it] it (fun i h => h.IsListIter it a i) where
  mem := by simp
  obj := fun i h st b hb => by
    have e : b = it := by simpa using hb
    subst e
    obtain ⟨o, e, c, d⟩ := st
    exact ⟨o, e, fun v z => by rw [d] at z; cases z⟩
  keep := fun i h h' st k => st.at fun o e => k it (by simp) o e
  item := by
    intro X hP hw hK hc i pins s σ H E I hf st hg
    subst hP hw hK
    obtain ⟨xs, x, hq, hx⟩ := hg
    obtain ⟨its, rv, p, hz⟩ := I.list hq
    obtain ⟨u, hu, ru⟩ := rv.get hx
    obtain ⟨f0, f1, f2, f3, f4, f5⟩ := hf it (by simp)
    refine wpAny_pyNext_list_item st p.isList (x := u) (by simpa using hu) fun h' st' sb => ?_
    have I1 : Inv X pins σ H { s with heap := h' } := I.turned (t' := s.toks) (fun b o hb e => (sb.2 b hb).trans e) f0 f1 f3 f4 f5
    obtain ⟨o, e, c, d⟩ := id st'
    exact ⟨u, rfl, go_of (s := { s with heap := h' }) e c d (by decide) ⟨x, H, I1, ru, ⟨rfl, fun ys hy => by rw [I.list_inj hy hq]; exact hx⟩, st', fun b hb => (hf b hb).1⟩⟩
  done := by
    intro X hP hw hK hc i pins s σ H E I hf st hg
    subst hP hw hK
    obtain ⟨xs, hq, hx⟩ := hg
    obtain ⟨its, rv, p, hz⟩ := I.list hq
    obtain ⟨f0, f1, f2, f3, f4, f5⟩ := hf it (by simp)
    have hl := rv.length
    exact wpAny_pyNext_list_end (I.ok.hd hc) st p.isList (by simp; omega) fun h' eb => ⟨rfl, I.turned (t' := s.toks) (fun b o hb e => eb b o hb e) f0 f1 f3 f4 f5⟩
  self := fun _ _ _ _ _ st h => wpAny_pyIter_listiter st h
theorem turn_range {P : Program} {w : World} {K : PySem.W.Frag} {tg : Expr} (it : Addr) (lo : Int) (n : Nat) : Turn P w K tg (Itr lo n) [it] it (fun i h => IsRangeIter h it (lo + (i : Nat) * 1) ((n : Int) - (i : Nat)) 1) where
  mem := by simp
  obj := fun i h st b hb => by
    have e : b = it := by simpa using hb
    subst e
    exact ⟨_, st, fun v z => by
      have z' : Data.fields _ = Data.cell v := z
      cases z'⟩
  keep := fun i h h' st k => k it (by simp) _ st
  item := by
    intro X hP hw hK hc i pins s σ H E I hf st hg
    subst hP hw hK
    obtain ⟨f0, f1, f2, f3, f4, f5⟩ := hf it (by simp)
    have W := Walks.range (prog := X.prog) (w := X.w) (I.ok.hd hc) it lo 1 n
    refine W.item i s _ _ hg st fun v h' tk hv st' kk => ?_
    obtain ⟨t, rfl⟩ := hv
    have I1 : Inv X pins σ H { s with heap := h', toks := tk } := I.turned (fun b o hb e => kk b o (by simpa using hb) e) f0 f1 f3 f4 f5
    refine ⟨_, rfl, go_of (s := { s with heap := h', toks := tk }) (n := "range_iterator") st' rfl rfl (by decide) ⟨.int (lo + i), H, I1, ⟨t, ?_⟩, ⟨rfl, rfl⟩, st', fun b hb => (hf b hb).1⟩⟩
    rw [Int.mul_one]
  done := by
    intro X hP hw hK hc i pins s σ H E I hf st hg
    subst hP hw hK
    obtain ⟨f0, f1, f2, f3, f4, f5⟩ := hf it (by simp)
    exact wpAny_pyNext_range_end (I.ok.hd hc) st (by have : n ≤ i := hg; omega) fun h' eb => ⟨rfl, I.turned (t' := s.toks) (fun b o hb e => eb b o hb e) f0 f1 f3 f4 f5⟩
  self := fun _ _ _ _ _ st h => wpAny_pyIter_rangeiter st h
end L2

namespace L2
open PySem PySem.Spec PyProof.Rows
section
variable {X : Cx} {tg : Expr}
def iList (K : PySem.W.Frag) (tl : TE) : TI := fun σ H R => tl σ H fun x H1 => ∃ a, x = .ref a ∧ (∃ xs, SqL K H1 a xs) ∧ R (Itl K a) H1
def iTup (K : PySem.W.Frag) (tl : TE) : TI := fun σ H R => tl σ H fun x H1 => ∃ a, x = .ref a ∧ (∃ xs, SqT K H1 a xs) ∧ R (Itt K a) H1
theorem pi_list {l : Expr} {tl : TE} (hl : PE X l tl) : PI X tg l (iList X.K tl) := by
  intro pins s σ H R I h
  refine thn (hl pins s σ H _ I h) fun v s1 ⟨x, H1, I1, r1, q1⟩ => ?_
  obtain ⟨a, e, ⟨xs, hq⟩, q⟩ := q1
  subst e
  cases r1
  obtain ⟨its, rv, p, hz⟩ := I1.list hq
  refine wpAny_pyIter_list p.isList ?_
  refine ⟨s1.heap.objs.size, [s1.heap.objs.size], _, _, H1, rfl, I1.kept (t' := s1.toks) fun b o e => Heap.get?_push_of_some _ e, turn_list a _, ⟨_, Heap.get?_push_size _ rfl, rfl, rfl⟩, fun b hb => ?_, q⟩
  have e : b = s1.heap.objs.size := by simpa using hb
  subst e
  exact I1.fpOk (Nat.le_refl _) (I1.hok.fresh (Nat.le_refl _))
/-- a range object just made, walked -/
theorem range_it {pins : List (Addr × Obj)} {σ : St} {H : Hp} {s : Shared} {R : It → Hp → Prop} {E : Value → Shared → Prop} {lo hi : Int} {t u v : Tok} {tk : Nat} (I : Inv X pins σ H s) (h1 : -(2 ^ 62) ≤ lo) (h2 : lo < 2 ^ 62) (h3 : -(2 ^ 62) ≤ hi) (h4 : hi < 2 ^ 62)
    (q : R (Itr lo (hi - lo).toNat) H) : wpAny (model X.prog X.w) X.A (pyIter (.ref s.heap.objs.size)) (PIE X pins σ tg R) E { s with heap := s.heap.push { cls := .type "range", data := .fields #[.int lo t, .int hi u, .int 1 v] }, toks := tk } := by
  refine wpAny_pyIter_range (IsRange.new ..) (small_one h1 h2 h3 h4) ?_
  have I1 : Inv X pins σ H { s with heap := s.heap.push { cls := .type "range", data := .fields #[.int lo t, .int hi u, .int 1 v] }, toks := tk } := I.kept fun b o e => Heap.get?_push_of_some _ e
  refine ⟨(s.heap.push { cls := .type "range", data := .fields #[.int lo t, .int hi u, .int 1 v] }).objs.size, [(s.heap.push { cls := .type "range", data := .fields #[.int lo t, .int hi u, .int 1 v] }).objs.size], _, _, H, rfl,
    I1.kept (t' := tk) fun b o e => Heap.get?_push_of_some _ e, turn_range _ lo (hi - lo).toNat, ?_, fun b hb => ?_, q⟩
  · have e1 : lo + ((0 : Nat) : Int) * 1 = lo := by simp
    have e2 : (((hi - lo).toNat : Nat) : Int) - ((0 : Nat) : Int) = Builtin.Range.rangeSize lo hi 1 := by rw [rangeSize_one]; split <;> omega
    show IsRangeIter _ _ (lo + ((0 : Nat) : Int) * 1) ((((hi - lo).toNat : Nat) : Int) - ((0 : Nat) : Int)) 1
    rw [e1, e2]
    exact Heap.get?_push_size _ rfl
  · have e : b = (s.heap.push { cls := .type "range", data := .fields #[.int lo t, .int hi u, .int 1 v] }).objs.size := by simpa using hb
    subst e
    exact I1.fpOk (Nat.le_refl _) (I1.hok.fresh (Nat.le_refl _))
def iRng1 (ta : TA) : TI := fun σ H R => ta σ H fun vs H1 => ∃ j : Int, vs = [.int j] ∧ -(2 ^ 62) ≤ j ∧ j < 2 ^ 62 ∧ R (Itr 0 j.toNat) H1
def iRng2 (ta : TA) : TI := fun σ H R => ta σ H fun vs H1 => ∃ i j : Int, vs = [.int i, .int j] ∧ (-(2 ^ 62) ≤ i ∧ i < 2 ^ 62 ∧ -(2 ^ 62) ≤ j ∧ j < 2 ^ 62) ∧ R (Itr i (j - i).toNat) H1
theorem pi_range1 {a : Expr} {ta : TA} {p pos : Pos} (hg : Gl X "range") (hm : X.mg "range" = none) (ha : PA X [a] ta) (hs : starEach [a] X.env = [(false, eval a X.env)] := by rfl) : PI X tg (.Call (.Name "range" p) [a] [] pos) (iRng1 ta) := by
  intro pins s σ H R I h
  refine Call_ (ld_blt I hg hm boot_range (PyProof.Rows.callWith_type1 (thn (ha pos pins s σ H _ I h) fun us s1 ⟨vs, H1, I1, r1, q1⟩ => ?_) hs rfl))
  obtain ⟨j, e, q1, q2, q⟩ := q1
  subst e
  cases r1 with
  | cons r rr =>
    cases rr
    obtain ⟨t, rfl⟩ := r
    exact call_range_1 (range_it I1 (by omega) (by omega) q1 q2 (by simpa using q))
theorem pi_range2 {a b : Expr} {ta : TA} {p pos : Pos} (hg : Gl X "range") (hm : X.mg "range" = none) (ha : PA X [a, b] ta) (hs : starEach [a, b] X.env = [(false, eval a X.env), (false, eval b X.env)] := by rfl) (hs2 : starEach [b] X.env = [(false, eval b X.env)] := by rfl) :
    PI X tg (.Call (.Name "range" p) [a, b] [] pos) (iRng2 ta) := by
  intro pins s σ H R I h
  refine Call_ (ld_blt I hg hm boot_range (PyProof.Rows.callWith_type1 (thn (ha pos pins s σ H _ I h) fun us s1 ⟨vs, H1, I1, r1, q1⟩ => ?_) (by rw [hs, hs2]) (by rw [hs2]; rfl)))
  obtain ⟨i, j, e, ⟨q1, q2, q3, q4⟩, q⟩ := q1
  subst e
  cases r1 with
  | cons r rr =>
    cases rr with
    | cons r' rr =>
      cases rr
      obtain ⟨t, rfl⟩ := r
      obtain ⟨t', rfl⟩ := r'
      exact call_range_2 (range_it I1 q1 q2 q3 q4 q)

/-! ### for -/
/-- W: the invariant by the turn and a measure; N: what the body is to reach -/
def tFor (wi : TI) (g : TG) (tb : TS) : TS := fun D σ H => wi σ H fun J H1 => ∃ W : Nat → Nat → St → Hp → Prop, (∃ m, W 0 m σ H1) ∧ ∀ i m σ H, W i m σ H →
  (J.stop i H ∧ D.nx σ H) ∨ (J.go i H ∧ ∃ N : St → Hp → Prop, (∀ σ' H', N σ' H' → ∃ m', m' < m ∧ W (i + 1) m' σ' H') ∧ ∀ x H', J.yld i H x H' → g x σ H' fun σ2 H2 => tb { D with nx := N, ct := N, bk := D.nx } σ2 H2)
/-- the records at fp as they stand -/
def pinsAt (fp : List Addr) (h : Heap) : List (Addr × Obj) := fp.filterMap fun b => (h.get? b).map fun o => (b, o)
theorem mem_pinsAt {fp : List Addr} {h : Heap} {b : Addr} {o : Obj} (hb : b ∈ fp) (e : h.get? b = some o) : (b, o) ∈ pinsAt fp h := List.mem_filterMap.mpr ⟨b, hb, by rw [e]; rfl⟩
theorem of_pinsAt {fp : List Addr} {h : Heap} {p : Addr × Obj} (hp : p ∈ pinsAt fp h) : p.1 ∈ fp ∧ h.get? p.1 = some p.2 := by
  obtain ⟨b, hb, e⟩ := List.mem_filterMap.mp hp
  cases q : h.get? b with
  | none => rw [q] at e; cases e
  | some o =>
    rw [q] at e
    have e' : (b, o) = p := Option.some.inj e
    subst e'
    exact ⟨hb, q⟩
theorem Inv.pinned {pins : List (Addr × Obj)} {σ : St} {H : Hp} {s : Shared} {fp : List Addr} (I : Inv X pins σ H s) (hf : ∀ b ∈ fp, FpOk X pins H b) (ho : ∀ b ∈ fp, ∃ o, s.heap.get? b = some o ∧ ∀ v, o.data ≠ .cell v) : Inv X (pins ++ pinsAt fp s.heap) σ H s :=
  I.pins_of fun p hp => (List.mem_append.mp hp).elim (fun z => I.pin p (List.mem_append_right _ z)) fun z => by
    obtain ⟨hb, e⟩ := of_pinsAt z
    obtain ⟨f0, f1, f2, _⟩ := hf p.1 hb
    obtain ⟨o, e', d⟩ := ho p.1 hb
    rw [e] at e'; cases e'
    exact ⟨e, f0, f1, f2, d⟩
theorem Inv.unpinned {pins pl : List (Addr × Obj)} {σ : St} {H : Hp} {s : Shared} (I : Inv X (pins ++ pl) σ H s) : Inv X pins σ H s := I.pins_of fun p hp => I.pin p (List.mem_append_right _ (List.mem_append_left _ hp))
theorem ps_for {iter : Expr} {body : List Stmt} {wi : TI} {g : TG} {tb : TS} {pos : Pos} (hp : PassesOwn (model X.prog X.w) X.A X.env X.xe) (hc : X.calm = true) (hi : PI X tg iter wi) (hg : PG X tg g) (hb : PSs X body tb)
    (hs : ∀ x, foldedSetIterable iter X.env x = pure x := by intro _; rfl) : PS X (.For tg iter body [] pos) (tFor wi g tb) := by
  intro pins s σ H D I h
  refine wpAny_For (thn (hi pins s σ H _ I h) fun v s1 h1 => thn h1 fun itv s2 h2 => ?_) hs
  obtain ⟨it, fp, tn, J, H2, e, I2, T, st2, f2, W, ⟨m0, w0⟩, turn⟩ := h2
  subst e
  -- what stays true of the iterator's objects through the loop
  have stat : ∀ {H' : Hp}, (∀ b ∈ fp, H' b = none) → ∀ b ∈ fp, FpOk X pins H' b := fun hn b hb => ⟨hn b hb, (f2 b hb).2⟩
  refine codeAny_forLoop_any (fun n s' => ∃ i σ' H', Inv X pins σ' H' s' ∧ tn i s'.heap ∧ (∀ b ∈ fp, H' b = none) ∧ W i n σ' H') ?_ m0 ⟨0, σ, H2, I2, st2, fun b hb => (f2 b hb).1, w0⟩
  rintro n s3 ⟨i, σ3, H3, I3, st3, fr3, w3⟩
  rcases turn i n σ3 H3 w3 with ⟨stop, qn⟩ | ⟨go, N, hN, step⟩
  · refine wpAny_passesOwn hp (thn (T.done X rfl rfl rfl hc i pins s3 σ3 H3 X.xe I3 (stat fr3) st3 stop) fun r s4 ⟨hr, I4⟩ => ?_)
    subst hr
    exact wpAny_execs_nil ⟨σ3, H3, I4, qn⟩
  · refine wpAny_passesOwn hp (thn (T.item X rfl rfl rfl hc i pins s3 σ3 H3 X.xe I3 (stat fr3) st3 go) fun r s4 ⟨u, hr, h4⟩ => ?_)
    subst hr
    refine wpAny_passesOwn hp (thn h4 fun _ s5 ⟨x, H5, I5, r5, y5, st5, fr5⟩ => ?_)
    have I5' := I5.pinned (stat fr5) (T.obj _ _ st5)
    refine wpAny_passesOwn hp (thn (hg _ s5 σ3 H5 x u _ I5' r5 (step x H5 y5)) fun _ s6 ⟨σ6, H6, I6, q6⟩ => ?_)
    refine wpAny_passesOwn hp (thn (hb _ s6 σ6 H6 _ I6 q6) fun f s7 q7 => ?_)
    have again : ∀ {σ7 : St} {H7 : Hp}, Inv X (pins ++ pinsAt fp s5.heap) σ7 H7 s7 → N σ7 H7 → ∃ m, m < n ∧ ∃ i σ' H', Inv X pins σ' H' s7 ∧ tn i s7.heap ∧ (∀ b ∈ fp, H' b = none) ∧ W i m σ' H' := fun {σ7 H7} I7 n7 => by
      obtain ⟨m', hm, w7⟩ := hN σ7 H7 n7
      refine ⟨m', hm, i + 1, σ7, H7, I7.unpinned, T.keep _ _ _ st5 fun b hb o e => (I7.pin (b, o) (List.mem_append_right _ (List.mem_append_right _ (mem_pinsAt hb e)))).1, fun b hb => ?_, w7⟩
      obtain ⟨o, e, d⟩ := T.obj _ _ st5 b hb
      exact (I7.pin (b, o) (List.mem_append_right _ (List.mem_append_right _ (mem_pinsAt hb e)))).2.1
    cases f with
    | next => obtain ⟨σ7, H7, I7, n7⟩ := q7; exact again I7 n7
    | cont => obtain ⟨σ7, H7, I7, n7⟩ := q7; exact again I7 n7
    | brk => obtain ⟨σ7, H7, I7, q7⟩ := q7; exact ⟨σ7, H7, I7.unpinned, q7⟩
    | ret v => obtain ⟨x7, σ7, H7, I7, r7, q7⟩ := q7; exact ⟨x7, σ7, H7, I7.unpinned, r7, q7⟩
end

/-! ### the forms one uses -/
/-- over a list that the body leaves as it is -/
theorem for_list {K : PySem.W.Frag} {a : Addr} {xs : List V} {g : TG} {tb : TS} {D : Ends} {σ : St} {H : Hp} (Pv : Nat → St → Hp → Prop) (h0 : Pv 0 σ H) (hl : ∀ i σ H, i ≤ xs.length → Pv i σ H → SqL K H a xs)
    (hs : ∀ i x σ H, xs[i]? = some x → Pv i σ H → g x σ H fun σ2 H2 => tb { D with nx := Pv (i + 1), ct := Pv (i + 1), bk := D.nx } σ2 H2) (hd : ∀ σ H, Pv xs.length σ H → D.nx σ H) :
    ∃ W : Nat → Nat → St → Hp → Prop, (∃ m, W 0 m σ H) ∧ ∀ i m σ H, W i m σ H →
      ((Itl K a).stop i H ∧ D.nx σ H) ∨ ((Itl K a).go i H ∧ ∃ N : St → Hp → Prop, (∀ σ' H', N σ' H' → ∃ m', m' < m ∧ W (i + 1) m' σ' H') ∧ ∀ x H', (Itl K a).yld i H x H' → g x σ H' fun σ2 H2 => tb { D with nx := N, ct := N, bk := D.nx } σ2 H2) := by
  refine ⟨fun i m σ H => m = xs.length - i ∧ i ≤ xs.length ∧ Pv i σ H, ⟨xs.length, by simp, Nat.zero_le _, h0⟩, ?_⟩
  rintro i m σ H ⟨rfl, hi, p⟩
  have q := hl i σ H hi p
  by_cases hlt : i < xs.length
  · refine .inr ⟨⟨xs, xs[i], q, by simp [hlt]⟩, Pv (i + 1), fun σ' H' p' => ⟨xs.length - (i + 1), by omega, rfl, hlt, p'⟩, fun x H' y => ?_⟩
    obtain ⟨e, y⟩ := y
    subst e
    exact hs i x σ _ (y xs q) p
  · have e : i = xs.length := by omega
    subst e
    exact .inl ⟨⟨xs, q, Nat.le_refl _⟩, hd σ H p⟩
theorem for_range {lo : Int} {n : Nat} {g : TG} {tb : TS} {D : Ends} {σ : St} {H : Hp} (Pv : Nat → St → Hp → Prop) (h0 : Pv 0 σ H)
    (hs : ∀ i σ H, i < n → Pv i σ H → g (.int (lo + i)) σ H fun σ2 H2 => tb { D with nx := Pv (i + 1), ct := Pv (i + 1), bk := D.nx } σ2 H2) (hd : ∀ σ H, Pv n σ H → D.nx σ H) :
    ∃ W : Nat → Nat → St → Hp → Prop, (∃ m, W 0 m σ H) ∧ ∀ i m σ H, W i m σ H →
      ((Itr lo n).stop i H ∧ D.nx σ H) ∨ ((Itr lo n).go i H ∧ ∃ N : St → Hp → Prop, (∀ σ' H', N σ' H' → ∃ m', m' < m ∧ W (i + 1) m' σ' H') ∧ ∀ x H', (Itr lo n).yld i H x H' → g x σ H' fun σ2 H2 => tb { D with nx := N, ct := N, bk := D.nx } σ2 H2) := by
  refine ⟨fun i m σ H => m = n - i ∧ i ≤ n ∧ Pv i σ H, ⟨n, by simp, Nat.zero_le _, h0⟩, ?_⟩
  rintro i m σ H ⟨rfl, hi, p⟩
  by_cases hlt : i < n
  · refine .inr ⟨hlt, Pv (i + 1), fun σ' H' p' => ⟨n - (i + 1), by omega, rfl, hlt, p'⟩, fun x H' y => ?_⟩
    obtain ⟨e, y⟩ := y
    subst e y
    exact hs i σ _ hlt p
  · have e : i = n := by omega
    subst e
    exact .inl ⟨Nat.le_refl _, hd σ H p⟩
end L2

namespace L2
open PySem PySem.Spec PyProof.Rows

abbrev R2 := V → V → Hp → VK → Prop
/-- a two-place operation on values: f is binaryOp op, inplaceOp op or compareOp op -/
def OpR (X : Cx) (f : Value → Value → Sem Value) (r : R2) : Prop :=
  ∀ (pins : List (Addr × Obj)) (s : Shared) (σ : St) (H : Hp) (x y : V) (v u : Value) (Q : VK), Inv X pins σ H s → RelV x v → RelV y u → r x y H Q →
    wpAny (model X.prog X.w) X.A (f v u) (EP X pins σ Q) X.xe s
/-- a one-place operation -/
def UnR (X : Cx) (f : Value → Sem Value) (r : V → Hp → VK → Prop) : Prop :=
  ∀ (pins : List (Addr × Obj)) (s : Shared) (σ : St) (H : Hp) (x : V) (v : Value) (Q : VK), Inv X pins σ H s → RelV x v → r x H Q →
    wpAny (model X.prog X.w) X.A (f v) (EP X pins σ Q) X.xe s
/-- a call of a value that is known (a builtin, a type) with values -/
def CallR (X : Cx) (f : Value) (r : List V → Hp → VK → Prop) : Prop :=
  ∀ (pins : List (Addr × Obj)) (s : Shared) (σ : St) (H : Hp) (xs : List V) (us : List Value) (Q : VK), Inv X pins σ H s → Vals xs us → r xs H Q →
    wpAny (model X.prog X.w) X.A (call f us) (EP X pins σ Q) X.xe s
/-- a value's truth -/
def TruR (X : Cx) (r : V → Hp → (Bool → Hp → Prop) → Prop) : Prop :=
  ∀ (pins : List (Addr × Obj)) (s : Shared) (σ : St) (H : Hp) (x : V) (v : Value) (Q : Bool → Hp → Prop), Inv X pins σ H s → RelV x v → r x H Q →
    wpAny (model X.prog X.w) X.A (truthy v) (TP X pins σ Q) X.xe s

def tOp (r : R2) (ta tb : TE) : TE := fun σ H Q => ta σ H fun x H1 => tb σ H1 fun y H2 => r x y H2 Q
def tUn (r : V → Hp → VK → Prop) (ta : TE) : TE := fun σ H Q => ta σ H fun x H1 => r x H1 Q
/-- ints in, under C, and a value out -/
def rI (C : Int → Int → Prop) (g : Int → Int → V) : R2 := fun x y H Q => ∃ i j, x = .int i ∧ y = .int j ∧ C i j ∧ Q (g i j) H
def rI0 (g : Int → Int → V) : R2 := fun x y H Q => ∃ i j, x = .int i ∧ y = .int j ∧ Q (g i j) H
def rU (g : Int → V) : V → Hp → VK → Prop := fun x H Q => ∃ i, x = .int i ∧ Q (g i) H

section
variable {X : Cx} {a b c : Expr} {ta tb tc : TE} {pos : Pos}

theorem binT (ha : PE X a ta) (hb : PE X b tb) {pins : List (Addr × Obj)} {s : Shared} {σ : St} {H : Hp} {R : V → V → Hp → Prop} (I : Inv X pins σ H s)
    (h : ta σ H fun x H1 => tb σ H1 fun y H2 => R x y H2) {Q : Value → Shared → Prop} {f : Value → Value → Sem Value}
    (hf : ∀ v u s2 x y H2, Inv X pins σ H2 s2 → RelV x v → RelV y u → R x y H2 → wpAny (model X.prog X.w) X.A (f v u) Q X.xe s2) :
    wpAny (model X.prog X.w) X.A (eval a X.env) (fun v s₁ => wpAny (model X.prog X.w) X.A (eval b X.env) (fun u s₂ => wpAny (model X.prog X.w) X.A (f v u) Q X.xe s₂) X.xe s₁) X.xe s := by
  refine thn (ha pins s σ H _ I h) fun v s1 ⟨x, H1, I1, r1, q1⟩ => ?_
  refine thn (hb pins s1 σ H1 _ I1 q1) fun u s2 ⟨y, H2, I2, r2, q2⟩ => ?_
  exact hf v u s2 x y H2 I2 r1 r2 q2

theorem pe_op {op : Operator} {r : R2} (ho : OpR X (binaryOp op) r) (ha : PE X a ta) (hb : PE X b tb) : PE X (.BinOp a op b pos) (tOp r ta tb) := by
  intro pins s σ H Q I h
  exact wpAny_BinOp (binT ha hb I h fun v u s2 x y H2 I2 rx ry q => ho pins s2 σ H2 x y v u Q I2 rx ry q)

/-! ### ints -/
theorem opI {f : Value → Value → Sem Value} {C : Int → Int → Prop} {g : Int → Int → Int}
    (rule : ∀ (i j : Int) (t u : Tok) (s : Shared) (Q : Value → Shared → Prop) (E : Value → Shared → Prop), C i j → Q (.int (g i j) s.toks) { s with toks := s.toks + 1 } → wpAny (model X.prog X.w) X.A (f (.int i t) (.int j u)) Q E s) :
    OpR X f (rI C fun i j => .int (g i j)) := by
  intro pins s σ H x y v u Q I rx ry h
  obtain ⟨i, j, rfl, rfl, hc, q⟩ := h
  obtain ⟨t, rfl⟩ := rx
  obtain ⟨t', rfl⟩ := ry
  exact rule i j t t' s _ _ hc ⟨.int (g i j), H, I.tok _, ⟨_, rfl⟩, q⟩
theorem opI0 {f : Value → Value → Sem Value} {g : Int → Int → Int}
    (rule : ∀ (i j : Int) (t u : Tok) (s : Shared) (Q : Value → Shared → Prop) (E : Value → Shared → Prop), Q (.int (g i j) s.toks) { s with toks := s.toks + 1 } → wpAny (model X.prog X.w) X.A (f (.int i t) (.int j u)) Q E s) :
    OpR X f (rI0 fun i j => .int (g i j)) := by
  intro pins s σ H x y v u Q I rx ry h
  obtain ⟨i, j, rfl, rfl, q⟩ := h
  obtain ⟨t, rfl⟩ := rx
  obtain ⟨t', rfl⟩ := ry
  exact rule i j t t' s _ _ ⟨.int (g i j), H, I.tok _, ⟨_, rfl⟩, q⟩
theorem opB0 {f : Value → Value → Sem Value} {g : Int → Int → Bool}
    (rule : ∀ (i j : Int) (t u : Tok) (s : Shared) (Q : Value → Shared → Prop) (E : Value → Shared → Prop), Q (.bool (g i j)) s → wpAny (model X.prog X.w) X.A (f (.int i t) (.int j u)) Q E s) :
    OpR X f (rI0 fun i j => .bl (g i j)) := by
  intro pins s σ H x y v u Q I rx ry h
  obtain ⟨i, j, rfl, rfl, q⟩ := h
  obtain ⟨t, rfl⟩ := rx
  obtain ⟨t', rfl⟩ := ry
  exact rule i j t t' s _ _ ⟨.bl (g i j), H, I, rfl, q⟩

def CDiv (i j : Int) : Prop := 0 < j ∧ j < 1073741824
def CDivN (i j : Int) : Prop := j ≠ 0 ∧ j.natAbs < 1073741824
def CPow (i j : Int) : Prop := 0 ≤ j ∧ j ≤ 1000000 ∧ i.natAbs < 2 ^ 64
def CMul (i j : Int) : Prop := (-(2 ^ 64) < i ∧ i < 2 ^ 64) ∨ (-(2 ^ 64) < j ∧ j < 2 ^ 64)
theorem CMul.ok {i j : Int} (h : CMul i j) : IntMulOk i j := by
  rcases h with ⟨h1, h2⟩ | ⟨h1, h2⟩
  · exact .of_left (intBits_le_64 h1 h2)
  · exact .of_right (intBits_le_64 h1 h2)

theorem op_add : OpR X (binaryOp .Add) (rI0 fun i j => .int (i + j)) := opI0 fun _ _ _ _ _ _ _ q => add_int q
theorem op_mul : OpR X (binaryOp .Mult) (rI CMul fun i j => .int (i * j)) := opI fun _ _ _ _ _ _ _ hc q => mul_int q hc.ok
/-- // by a positive divisor -/
theorem op_fdiv : OpR X (binaryOp .FloorDiv) (rI CDiv fun i j => .int (i / j)) := opI fun i j _ _ _ _ _ hc q => by
  have h1 : (0 : Int) < j := hc.1
  have h2 : j < 1073741824 := hc.2
  exact floordiv_int (by omega) (by rw [Int.fdiv_eq_ediv_of_nonneg i (by omega)]; exact q) (.inl (PyProof.noPylong_small (by omega)))
/-- % by a positive divisor of any size -/
theorem op_mod : OpR X (binaryOp .Mod) (rI (fun _ j => 0 < j) fun i j => .int (i % j)) := opI fun i j _ _ _ _ _ hc q => by
  have h1 : (0 : Int) < j := hc
  exact mod_int' (by omega) (by rw [Int.fmod_eq_emod_of_nonneg i (by omega)]; exact q)
theorem op_pow : OpR X (binaryOp .Pow) (rI CPow fun i j => .int (i ^ j.toNat)) := opI fun _ _ _ _ _ _ _ hc q => pow_int_small hc.1 hc.2.1 hc.2.2 q



/-! ### bools among ints: n += (a < b) -/
end

/-! ### comparisons -/
/-- the scalars that == tells apart as data does -/
def scal : V → V → Bool
  | .non, .non => true | .non, .int _ => true | .int _, .non => true | .non, .bl _ => true | .bl _, .non => true | .non, .str _ => true | .str _, .non => true
  | .int _, .int _ => true | .bl _, .bl _ => true | .str _, .str _ => true | .byt _, .byt _ => true
  | .int _, .str _ => true | .str _, .int _ => true | .bl _, .str _ => true | .str _, .bl _ => true
  | _, _ => false
def rEq : R2 := fun x y H Q => scal x y = true ∧ Q (.bl (decide (x = y))) H
def rNe : R2 := fun x y H Q => scal x y = true ∧ Q (.bl (!decide (x = y))) H

theorem dec_int {i j : Int} : decide (V.int i = V.int j) = (i == j) := by
  rw [Bool.eq_iff_iff]
  simp
theorem dec_bl {i j : Bool} : decide (V.bl i = V.bl j) = (i == j) := by
  rw [Bool.eq_iff_iff]
  simp
theorem dec_str {i j : Str} : decide (V.str i = V.str j) = (i == j) := by
  rw [Bool.eq_iff_iff]
  simp
theorem dec_byt {i j : Array UInt8} : decide (V.byt i = V.byt j) = (i.toList == j.toList) := by
  rw [Bool.eq_iff_iff]
  cases i
  cases j
  simp

section
variable {X : Cx} {a b c : Expr} {ta tb tc : TE} {pos : Pos}
theorem fin_bl {pins : List (Addr × Obj)} {σ : St} {H : Hp} {s : Shared} {Q : VK} {k k' : Bool} (I : Inv X pins σ H s) (q : Q (.bl k) H) (e : k = k') : EP X pins σ Q (.bool k') s := by
  subst e
  exact ⟨.bl k, H, I, rfl, q⟩
theorem op_eq : OpR X (compareOp .Eq) rEq := by
  intro pins s σ H x y v u Q I rx ry h
  obtain ⟨hs, q⟩ := h
  cases x with
  | non =>
    cases rx
    cases y with
    | non => cases ry; exact PySem.EqNone.eq_none_none (fin_bl I q (by simp))
    | bl j => cases ry; exact PySem.EqNone.eq_none_bool (fin_bl I q (by simp))
    | int j => obtain ⟨t', rfl⟩ := ry; exact PySem.EqNone.eq_none_int (fin_bl I q (by simp))
    | str j => obtain ⟨t', rfl⟩ := ry; exact PySem.EqNone.eq_none_str (fin_bl I q (by simp))
    | _ => exact absurd (show false = true from hs) Bool.false_ne_true
  | bl i =>
    cases rx
    cases y with
    | non => cases ry; exact PySem.EqNone.eq_bool_none (fin_bl I q (by simp))
    | bl j => cases ry; exact eq_bool (fin_bl I q dec_bl)
    | str j => obtain ⟨t', rfl⟩ := ry; exact PySem.EqMixed.eq_bool_str (fin_bl I q (by simp))
    | _ => exact absurd (show false = true from hs) Bool.false_ne_true
  | int i =>
    obtain ⟨t, rfl⟩ := rx
    cases y with
    | non => cases ry; exact PySem.EqNone.eq_int_none (fin_bl I q (by simp))
    | int j => obtain ⟨t', rfl⟩ := ry; exact eq_int (fin_bl I q dec_int)
    | str j => obtain ⟨t', rfl⟩ := ry; exact PySem.EqMixed.eq_int_str (fin_bl I q (by simp))
    | _ => exact absurd (show false = true from hs) Bool.false_ne_true
  | str i =>
    obtain ⟨t, rfl⟩ := rx
    cases y with
    | non => cases ry; exact PySem.EqNone.eq_str_none (fin_bl I q (by simp))
    | bl j => cases ry; exact PySem.EqMixed.eq_str_bool (fin_bl I q (by simp))
    | int j => obtain ⟨t', rfl⟩ := ry; exact PySem.EqMixed.eq_str_int (fin_bl I q (by simp))
    | str j => obtain ⟨t', rfl⟩ := ry; exact eq_str (fin_bl I q dec_str)
    | _ => exact absurd (show false = true from hs) Bool.false_ne_true
  | byt i =>
    obtain ⟨t, rfl⟩ := rx
    cases y with
    | byt j => obtain ⟨t', rfl⟩ := ry; exact PySem.W.eq_bytes (fin_bl I q dec_byt)
    | _ => exact absurd (show false = true from hs) Bool.false_ne_true
  | _ => cases y <;> exact absurd (show false = true from hs) Bool.false_ne_true
theorem op_ne : OpR X (compareOp .NotEq) rNe := by
  intro pins s σ H x y v u Q I rx ry h
  obtain ⟨hs, q⟩ := h
  cases x with
  | non =>
    cases rx
    cases y with
    | non => cases ry; exact PySem.EqNone.ne_none_none (fin_bl I q (by simp))
    | bl j => cases ry; exact PySem.EqNone.ne_none_bool (fin_bl I q (by simp))
    | int j => obtain ⟨t', rfl⟩ := ry; exact PySem.EqNone.ne_none_int (fin_bl I q (by simp))
    | str j => obtain ⟨t', rfl⟩ := ry; exact PySem.EqNone.ne_none_str (fin_bl I q (by simp))
    | _ => exact absurd (show false = true from hs) Bool.false_ne_true
  | bl i =>
    cases rx
    cases y with
    | non => cases ry; exact PySem.EqNone.ne_bool_none (fin_bl I q (by simp))
    | bl j => cases ry; exact ne_bool (fin_bl I q (congrArg not dec_bl))
    | str j => obtain ⟨t', rfl⟩ := ry; exact PySem.EqMixed.ne_bool_str (fin_bl I q (by simp))
    | _ => exact absurd (show false = true from hs) Bool.false_ne_true
  | int i =>
    obtain ⟨t, rfl⟩ := rx
    cases y with
    | non => cases ry; exact PySem.EqNone.ne_int_none (fin_bl I q (by simp))
    | int j => obtain ⟨t', rfl⟩ := ry; exact ne_int (fin_bl I q (congrArg not dec_int))
    | str j => obtain ⟨t', rfl⟩ := ry; exact PySem.EqMixed.ne_int_str (fin_bl I q (by simp))
    | _ => exact absurd (show false = true from hs) Bool.false_ne_true
  | str i =>
    obtain ⟨t, rfl⟩ := rx
    cases y with
    | non => cases ry; exact PySem.EqNone.ne_str_none (fin_bl I q (by simp))
    | bl j => cases ry; exact PySem.EqMixed.ne_str_bool (fin_bl I q (by simp))
    | int j => obtain ⟨t', rfl⟩ := ry; exact PySem.EqMixed.ne_str_int (fin_bl I q (by simp))
    | str j => obtain ⟨t', rfl⟩ := ry; exact ne_str (fin_bl I q (congrArg not dec_str))
    | _ => exact absurd (show false = true from hs) Bool.false_ne_true
  | byt i =>
    obtain ⟨t, rfl⟩ := rx
    cases y with
    | byt j => obtain ⟨t', rfl⟩ := ry; exact PySem.W.ne_bytes (fin_bl I q (congrArg not dec_byt))
    | _ => exact absurd (show false = true from hs) Bool.false_ne_true
  | _ => cases y <;> exact absurd (show false = true from hs) Bool.false_ne_true

theorem op_lt : OpR X (compareOp .Lt) (rI0 fun i j => .bl (decide (i < j))) := opB0 fun _ _ _ _ _ _ _ q => lt_int q
theorem op_gt : OpR X (compareOp .Gt) (rI0 fun i j => .bl (decide (j < i))) := opB0 fun _ _ _ _ _ _ _ q => gt_int q
theorem op_lt_str : OpR X (compareOp .Lt) (fun x y H Q => ∃ i j, x = .str i ∧ y = .str j ∧ Q (.bl (decide (i.cps.toList < j.cps.toList))) H) := by
  intro pins s σ H x y v u Q I rx ry h
  obtain ⟨i, j, rfl, rfl, q⟩ := h
  obtain ⟨t, rfl⟩ := rx
  obtain ⟨t', rfl⟩ := ry
  exact lt_str (fin_bl I q rfl)


/-- is, is not of two objects that are tracked lists or instances -/
def isObj : HO → Bool
  | .lst _ => true
  | .ins _ _ _ => true
  | _ => false

/-- two rules for one operation: by cases -/
theorem OpR.or {f : Value → Value → Sem Value} {r r' : R2} (h : OpR X f r) (h' : OpR X f r') : OpR X f (fun x y H Q => r x y H Q ∨ r' x y H Q) := by
  intro pins s σ H x y v u Q I rx ry q
  rcases q with q | q
  · exact h pins s σ H x y v u Q I rx ry q
  · exact h' pins s σ H x y v u Q I rx ry q

theorem nomark (b : Expr) {op : CmpOp} (h : op ≠ .In := by decide) (h2 : op ≠ .NotIn := by decide) : behindInMarks op b = false := by
  have e1 : (op == CmpOp.In) = false := by cases op <;> first | rfl | exact absurd rfl h
  have e2 : (op == CmpOp.NotIn) = false := by cases op <;> first | rfl | exact absurd rfl h2
  cases b <;> simp [behindInMarks, e1, e2]
/-- a comparison as a value; hm: nomark b, or (for in, not in) by with_unfolding_all rfl -/
theorem pe_cmpR {op : CmpOp} {r : R2} (ho : OpR X (compareOp op) r) (ha : PE X a ta) (hb : PE X b tb) (hm : behindInMarks op b = false) : PE X (.Compare a [op] [b] pos) (tOp r ta tb) := by
  intro pins s σ H Q I h
  exact wpAny_Compare1 (binT ha hb I h fun v u s2 x y H2 I2 rx ry q => ho pins s2 σ H2 x y v u Q I2 rx ry q) hm
/-- a reading of a value as a test -/
def tTest (t : TE) : TT := fun σ H Q => t σ H fun x H' => ∃ k, x = .bl k ∧ Q k H'
theorem pt_cmpR {op : CmpOp} {r : R2} (ho : OpR X (compareOp op) r) (ha : PE X a ta) (hb : PE X b tb) (hm : behindInMarks op b = false) : PT X (.Compare a [op] [b] pos) (tTest (tOp r ta tb)) := by
  intro pins s σ H Q I h
  refine wpAny_isTrue_Compare1 (thn (ha pins s σ H _ I h) fun v s1 ⟨x, H1, I1, r1, q1⟩ => thn (hb pins s1 σ H1 _ I1 q1) fun u s2 ⟨y, H2, I2, r2, q2⟩ =>
    thn (ho pins s2 σ H2 x y v u _ I2 r1 r2 q2) fun c s3 ⟨z, H3, I3, r3, k, e, q3⟩ => ?_) hm
  subst e
  cases r3
  exact wpAny_truthy_bool ⟨H3, I3, q3⟩
/-- a op1 b op2 c -/
def tChain (r r' : R2) (ta tb tc : TE) : TE := fun σ H Q => ta σ H fun x H1 => tb σ H1 fun y H2 => r x y H2 fun z H3 => ∃ k, z = .bl k ∧
  (if k = true then tc σ H3 fun w' H4 => r' y w' H4 Q else Q (.bl false) H3)

/-! ### truth -/
/-- a value's truth by the abstract heap -/
def TruV (K : PySem.W.Frag) (x : V) (H : Hp) (k : Bool) : Prop :=
  match x with
  | .non => k = false
  | .bl b => k = b
  | .int i => k = (i != 0)
  | .str y => y.length ≤ sizeLine ∧ k = ((y.length : Int) != 0)
  | .byt y => y.size ≤ sizeLine ∧ k = ((y.size : Int) != 0)
  | .ref p => (∃ xs, SqL K H p xs ∧ k = !xs.isEmpty) ∨ (∃ xs, SqT K H p xs ∧ k = !xs.isEmpty) ∨ ∃ kvs, H p = some (.dK kvs) ∧ k = !kvs.isEmpty
  | _ => False
theorem isEmpty_kv {κ : Type} {kvs : List (κ × V)} {vs : List (κ × Value)} (r : KV kvs vs) : (!vs.isEmpty) = !kvs.isEmpty := by
  cases r <;> rfl
theorem isEmpty_of {xs : List V} {its : List Value} (r : Vals xs its) : (!its.toArray.isEmpty) = !xs.isEmpty := by
  cases r <;> simp
theorem line63 : (sizeLine : Nat) < 2 ^ 63 := by rw [sizeLine_eq]; decide
theorem tru_ok : TruR X (fun x H Q => ∃ k, TruV X.K x H k ∧ Q k H) := by
  intro pins s σ H x v Q I rx h
  obtain ⟨k, e, q⟩ := h
  have hl := line63
  have hs : sizeLine = 16777216 := sizeLine_eq
  cases x with
  | non =>
    cases rx
    have e' : k = false := e
    subst e'
    exact truthy_none ⟨H, I, q⟩
  | bl b =>
    cases rx
    have e' : k = b := e
    subst e'
    exact wpAny_truthy_bool ⟨H, I, q⟩
  | int i =>
    obtain ⟨t, rfl⟩ := rx
    have e' : k = (i != 0) := e
    subst e'
    exact PySem.P.truthy_int ⟨H, I, q⟩
  | str y =>
    obtain ⟨t, rfl⟩ := rx
    obtain ⟨hy, e'⟩ : y.length ≤ sizeLine ∧ k = ((y.length : Int) != 0) := e
    subst e'
    exact PySem.P.truthy_str (by omega) ⟨H, I.tok _, q⟩
  | byt y =>
    obtain ⟨t, rfl⟩ := rx
    obtain ⟨hy, e'⟩ : y.size ≤ sizeLine ∧ k = ((y.size : Int) != 0) := e
    subst e'
    exact PySem.W.truthy_bytes (by omega) ⟨H, I.tok _, q⟩
  | ref p =>
    cases rx
    have e' : (∃ xs, SqL X.K H p xs ∧ k = !xs.isEmpty) ∨ (∃ xs, SqT X.K H p xs ∧ k = !xs.isEmpty) ∨ ∃ kvs, H p = some (.dK kvs) ∧ k = !kvs.isEmpty := e
    rcases e' with ⟨xs, hx, e'⟩ | ⟨xs, hx, e'⟩ | ⟨kvs, hx, e'⟩
    · subst e'
      obtain ⟨its, r, pl, hz⟩ := I.list hx
      have hlen := r.length
      exact wpAny_truthy_list pl.isList (by simp only [List.size_toArray]; omega) ⟨H, I.tok _, by rw [isEmpty_of r]; exact q⟩
    · subst e'
      obtain ⟨its, r, pl, hz⟩ := I.tuple hx
      have hlen := r.length
      exact truthy_tuple pl (by simp only [List.size_toArray]; omega) ⟨H, I.tok _, by rw [isEmpty_of r]; exact q⟩
    · subst e'
      obtain ⟨hz, hS, vs, r, m⟩ : kvs.length ≤ sizeLine ∧ (p == sysModules) = false ∧ ∃ vs, KV kvs vs ∧ s.heap.DictOf (mixKind X.prog X.w) p vs := I.hok p _ hx
      have hlen : kvs.length = vs.length := Paired.length r
      exact wpAny_truthy_dict hS m (by omega) ⟨H, I.tok _, by rw [isEmpty_kv r]; exact q⟩
  | _ => exact (show False from e).elim

/-! ### strs and bytes -/
theorem op_add_str : OpR X (binaryOp .Add) (fun x y H Q => ∃ i j, x = .str i ∧ y = .str j ∧ i.length + j.length ≤ sizeLine ∧ Q (.str (i ++ j)) H) := by
  intro pins s σ H x y v u Q I rx ry h
  obtain ⟨i, j, rfl, rfl, hz, q⟩ := h
  obtain ⟨t, rfl⟩ := rx
  obtain ⟨t', rfl⟩ := ry
  exact add_str (fun t' tk => ⟨.str (i ++ j), H, I.tok _, ⟨_, rfl⟩, q⟩) hz

def PlainIxT (b : Expr) : Prop := ∀ o i, subscripted b false o i = operate [o, i] (getItem o i)

/-! ### scalar builtins, by CallR -/
theorem vals1 {x : V} {us : List Value} (r : Vals [x] us) : ∃ u, us = [u] ∧ RelV x u := by
  cases r with
  | cons r1 r2 => cases r2; exact ⟨_, rfl, r1⟩
theorem vals2 {x y : V} {us : List Value} (r : Vals [x, y] us) : ∃ u w', us = [u, w'] ∧ RelV x u ∧ RelV y w' := by
  cases r with
  | cons r1 r2 =>
    cases r2 with
    | cons r3 r4 => cases r4; exact ⟨_, _, rfl, r1, r3⟩
theorem call_max2 (hc : X.calm = true) : CallR X (.builtin "max") (fun xs H Q => ∃ i j, xs = [.int i, .int j] ∧ Q (.int (if j > i then j else i)) H) := by
  intro pins s σ H xs us Q I r h
  obtain ⟨i, j, rfl, q⟩ := h
  obtain ⟨u, w', rfl, ⟨t, rfl⟩, ⟨t', rfl⟩⟩ := vals2 r
  refine max_two_ints (I.ok.hd hc) fun h' tk k => ⟨_, H, I.kept k, ?_, q⟩
  by_cases hj : j > i
  · rw [if_pos hj, if_pos hj]; exact ⟨_, rfl⟩
  · rw [if_neg hj, if_neg hj]; exact ⟨_, rfl⟩
theorem call_min2 (hc : X.calm = true) : CallR X (.builtin "min") (fun xs H Q => ∃ i j, xs = [.int i, .int j] ∧ Q (.int (if j < i then j else i)) H) := by
  intro pins s σ H xs us Q I r h
  obtain ⟨i, j, rfl, q⟩ := h
  obtain ⟨u, w', rfl, ⟨t, rfl⟩, ⟨t', rfl⟩⟩ := vals2 r
  refine min_two_ints (I.ok.hd hc) fun h' tk k => ⟨_, H, I.kept k, ?_, q⟩
  by_cases hj : j < i
  · rw [if_pos hj, if_pos hj]; exact ⟨_, rfl⟩
  · rw [if_neg hj, if_neg hj]; exact ⟨_, rfl⟩
/-- len of a str, a bytes, a list, a tuple -/
def LenV (K : PySem.W.Frag) (x : V) (H : Hp) (n : Nat) : Prop :=
  match x with
  | .str y => y.length ≤ sizeLine ∧ n = y.length
  | .byt y => y.size ≤ sizeLine ∧ n = y.size
  | .ref p => (∃ xs, SqL K H p xs ∧ n = xs.length) ∨ ∃ xs, SqT K H p xs ∧ n = xs.length
  | _ => False
theorem call_len : CallR X (.builtin "len") (fun xs H Q => ∃ x n, xs = [x] ∧ LenV X.K x H n ∧ Q (.int n) H) := by
  intro pins s σ H xs us Q I r h
  obtain ⟨x, n, rfl, e, q⟩ := h
  obtain ⟨u, rfl, rx⟩ := vals1 r
  have hl := line63
  have hs : sizeLine = 16777216 := sizeLine_eq
  cases x with
  | str y =>
    obtain ⟨t, rfl⟩ := rx
    obtain ⟨hy, e'⟩ : y.length ≤ sizeLine ∧ n = y.length := e
    subst e'
    exact len_str (by omega) ⟨.int _, H, I.tok _, ⟨_, rfl⟩, q⟩
  | byt y =>
    obtain ⟨t, rfl⟩ := rx
    obtain ⟨hy, e'⟩ : y.size ≤ sizeLine ∧ n = y.size := e
    subst e'
    exact PySem.W.len_bytes (by omega) ⟨.int _, H, I.tok _, ⟨_, rfl⟩, q⟩
  | ref p =>
    cases rx
    have e' : (∃ xs, SqL X.K H p xs ∧ n = xs.length) ∨ ∃ xs, SqT X.K H p xs ∧ n = xs.length := e
    rcases e' with ⟨xs, hx, e'⟩ | ⟨xs, hx, e'⟩
    · subst e'
      obtain ⟨its, r', pl, hz⟩ := I.list hx
      have hlen := r'.length
      exact Calls.call_len_list pl.isList (by simp only [List.size_toArray]; omega) ⟨.int xs.length, H, I.tok _, ⟨_, by simp only [List.size_toArray]; rw [hlen]⟩, q⟩
    · subst e'
      obtain ⟨its, r', pl, hz⟩ := I.tuple hx
      have hlen := r'.length
      exact len_tuple pl (by simp only [List.size_toArray]; omega) ⟨.int xs.length, H, I.tok _, ⟨_, by simp only [List.size_toArray]; rw [hlen]⟩, q⟩
  | _ => exact (show False from e).elim
end
end L2

namespace L2
open PySem PySem.Spec PyProof.Rows

/-! ### an instance, its attributes a map -/
structure ObjM (h : Heap) (x dx C : Addr) (mA : Str → Option Value) : Prop where
  obj : h.get? x = some (PySem.W.instObj C dx)
  ns : h.Ns1 dx mA
  ne : dx ≠ x

theorem lookIn_ns {h : Heap} {dx : Addr} {mA : Str → Option Value} (n : h.Ns1 dx mA) : ∃ od, h.get? dx = some od ∧ ∀ name, PySem.W.lookIn name od = some (mA name) := by
  obtain ⟨o, es, ep, ho, hd, hk, _, hm⟩ := n
  refine ⟨o, ho, fun name => ?_⟩
  have e := hm name
  unfold nsFind findBy at e
  rw [← Array.find?_toList] at e
  unfold PySem.W.lookIn
  rw [hd]
  dsimp only
  split
  · rename_i y q
    rw [q] at e
    exact congrArg some e
  · rename_i q
    rw [q] at e
    have a : es.toList.any (·.refKey) = false := by
      rw [List.any_eq_false]
      intro y hy
      obtain ⟨z, t, hkey⟩ := hk y (Array.mem_toList_iff.mp hy)
      simp [DictEntry.refKey, hkey]
    have a' : ¬ es.toList.any (·.refKey) = true := by rw [a]; exact Bool.false_ne_true
    rw [if_neg a']
    exact congrArg some e

theorem ObjM.look {h : Heap} {x dx C : Addr} {mA : Str → Option Value} (I : ObjM h x dx C mA) : ∃ od, PySem.W.InstAt h x (PySem.W.instObj C dx) C (some od) ∧ ∀ name, PySem.W.lookIn name od = some (mA name) :=
  let ⟨od, ho, hl⟩ := lookIn_ns I.ns
  ⟨od, ⟨I.obj, rfl, rfl, ho⟩, hl⟩

section
variable {prog : Program} {w : World} {A : Around} {E : Value → Shared → Prop} {s : Shared} {K : PySem.W.Frag} {x dx C f : Addr} {mA : Str → Option Value} {name : Str} {v : Value}





end

/-! ### the attributes as a list of pairs -/
def putF (f : Str) (v : V) : List (Str × V) → List (Str × V)
  | [] => [(f, v)]
  | (g, x) :: r => if g = f then (g, v) :: r else (g, x) :: putF f v r
theorem lookup_putF (f g : Str) (v : V) : ∀ fs : List (Str × V), (putF f v fs).lookup g = if g = f then some v else fs.lookup g
  | [] => by
    show List.lookup g [(f, v)] = _
    by_cases h : g = f
    · have hb : (g == f) = true := beq_iff_eq.mpr h
      simp only [List.lookup, hb, if_pos h]
    · have hb : (g == f) = false := beq_eq_false_iff_ne.mpr h
      simp only [List.lookup, hb, if_neg h]
  | (k, x) :: r => by
    have ih := lookup_putF f g v r
    rw [show putF f v ((k, x) :: r) = (if k = f then (k, v) :: r else (k, x) :: putF f v r) from rfl]
    by_cases hk : k = f
    · rw [if_pos hk]
      by_cases h : g = k
      · have hb : (g == k) = true := beq_iff_eq.mpr h
        simp only [List.lookup, hb, if_pos (h.trans hk)]
      · have hb : (g == k) = false := beq_eq_false_iff_ne.mpr h
        simp only [List.lookup, hb, if_neg (fun e : g = f => h (e.trans hk.symm))]
    · rw [if_neg hk]
      by_cases h : g = k
      · have hb : (g == k) = true := beq_iff_eq.mpr h
        simp only [List.lookup, hb, if_neg (fun e : g = f => hk (h.symm.trans e))]
      · have hb : (g == k) = false := beq_eq_false_iff_ne.mpr h
        simp only [List.lookup, hb]
        exact ih
theorem keys_putF (f : Str) (v : V) : ∀ fs : List (Str × V), f ∈ (putF f v fs).map (·.1) ∧ ∀ g, g ∈ fs.map (·.1) → g ∈ (putF f v fs).map (·.1)
  | [] => ⟨by simp [putF], fun g h => by simp at h⟩
  | (k, x) :: r => by
    obtain ⟨i1, i2⟩ := keys_putF f v r
    rw [show putF f v ((k, x) :: r) = (if k = f then (k, v) :: r else (k, x) :: putF f v r) from rfl]
    by_cases hk : k = f
    · rw [if_pos hk]
      subst hk
      exact ⟨by simp, fun g h => by simpa using h⟩
    · rw [if_neg hk]
      refine ⟨?_, fun g h => ?_⟩
      · rw [List.map_cons]
        exact List.mem_cons_of_mem _ i1
      · rw [List.map_cons] at h ⊢
        rcases List.mem_cons.mp h with e | e
        · exact List.mem_cons.mpr (.inl e)
        · exact List.mem_cons_of_mem _ (i2 g e)

theorem RelO.some_of {v : V} {o : Option Value} (r : RelO (some v) o) : ∃ u, o = some u ∧ RelV v u := by
  cases o with
  | none => exact (show False from r).elim
  | some u => exact ⟨u, rfl, r⟩
theorem RelO.none_of {o : Option Value} (r : RelO none o) : o = none := by
  cases o with
  | none => rfl
  | some u => exact (show False from r).elim
theorem handed_of {v : V} {u : Value} (r : RelV v u) : PySem.W.handedIn u = true := by
  cases v with
  | non => cases (show u = Value.none from r); rfl
  | bl b => cases (show u = Value.bool b from r); rfl
  | int i => obtain ⟨t, e⟩ := (show ∃ t, u = Value.int i t from r); cases e; rfl
  | str x => obtain ⟨t, e⟩ := (show ∃ t, u = Value.str x t from r); cases e; rfl
  | byt b => obtain ⟨t, e⟩ := (show ∃ t, u = Value.bytes b t from r); cases e; rfl
  | flt b => obtain ⟨t, e⟩ := (show ∃ t, u = Value.float b t from r); cases e; rfl
  | ref a => cases (show u = Value.ref a from r); rfl
  | ty n => cases (show u = Value.type n from r); rfl

section
variable {P : Program} {w : World} {H H' : Hp} {h h' : Heap} {a C dx : Addr} {fs fs' : List (Str × V)}
end

/-! ### what of the text a class must have -/
structure Cls (K : PySem.W.Frag) (C : Addr) : Prop where
  pg : PySem.W.plainGet K C Str.empty = true
  hd : PySem.W.hasDictIn K C = true
  po : PySem.W.plainOver K C = true
  sa : PySem.W.findIn K (.ref C) "__setattr__" = some (some (.builtin "object.__setattr__"))
theorem Cls.get {K : PySem.W.Frag} {C : Addr} (c : Cls K C) (f : Str) : PySem.W.plainGet K C f = true := c.pg
/-- no class of it has the name -/
def NoAttr (K : PySem.W.Frag) (C : Addr) (f : Str) : Prop := PySem.W.findIn K (.ref C) f = some none
/-- a constant of the class -/
structure Con (K : PySem.W.Frag) (C : Addr) (f : Str) (v : V) (u : Value) : Prop where
  at_ : PySem.W.findIn K (.ref C) f = some (some u)
  rel : RelV v u
  get : PySem.W.specialIn K u "__get__" = some none
  cp : PySem.W.copiedNames.contains f = false
/-- a method: a plain def of the class or of one above it -/
structure Meth (K : PySem.W.Frag) (C : Addr) (m : Str) (f : Addr) : Prop where
  at_ : PySem.W.findIn K (.ref C) m = some (some (.ref f))
  fn : PySem.W.isFn K (.ref f) = true
  kp : PySem.W.keepIn K (.ref f) = true

section
variable {X : Cx} {pins : List (Addr × Obj)} {σ : St} {H : Hp} {s : Shared} {a C dx : Addr} {fs : List (Str × V)} {f : Str} {v : V} {A : Around} {E : Value → Shared → Prop}





/-- a new instance, tracked, without attributes -/
theorem Inv.made (I : Inv X pins σ H s) : Inv X pins σ (upd (upd H s.heap.objs.size (.own (s.heap.objs.size + 1))) (s.heap.objs.size + 1) (.ins C s.heap.objs.size []))
    { s with heap := (s.heap.push PySem.W.emptyDict).push (PySem.W.instObj C s.heap.objs.size) } := by
  have e1 : (s.heap.push PySem.W.emptyDict).get? s.heap.objs.size = some PySem.W.emptyDict := Heap.get?_push_size s.heap rfl
  have e2 : ((s.heap.push PySem.W.emptyDict).push (PySem.W.instObj C s.heap.objs.size)).get? (s.heap.objs.size + 1) = some (PySem.W.instObj C s.heap.objs.size) := by
    have := Heap.get?_push_size (s.heap.push PySem.W.emptyDict) (o := PySem.W.instObj C s.heap.objs.size) rfl
    rwa [Heap.size_push] at this
  have e3 : (s.heap.push PySem.W.emptyDict).Ns s.heap.objs.size (fun _ => none) := ⟨PySem.W.emptyDict, #[], _, e1, rfl, (fun e he => absurd he (by simp)), fun _ => rfl⟩
  have I1 := I.laid (a := s.heap.objs.size) (o := .own (s.heap.objs.size + 1)) (h' := s.heap.push PySem.W.emptyDict) (t' := s.toks) (fun b u q => Heap.get?_push_of_some _ q) (Nat.le_refl _) ⟨_, e1⟩
  refine I1.laid (a := s.heap.objs.size + 1) (o := .ins C s.heap.objs.size []) (t' := s.toks) (fun b u q => Heap.get?_push_of_some _ q) (Nat.le_of_eq (Heap.size_push _ _)) ?_
  have ne : s.heap.objs.size ≠ s.heap.objs.size + 1 := Nat.ne_of_lt (Nat.lt_succ_self _)
  refine ⟨by rw [upd_ne ne, upd_same], Nat.zero_le _, ne, e2, fun _ => none, (Heap.Ns1.of_empty e3).at fun o q => Heap.get?_push_of_some _ q, fun _ => True.intro, fun y hy => absurd rfl hy⟩

/-- e.f where nothing but the object is asked: through attributeBase (super) and the last hold -/
theorem attr_of {prog : Program} {w : World} {env : Env} {e : Expr} {f : Str} {pos : Pos} {s : Shared} {Q : Value → Shared → Prop} (hb : attributeBase e f env (eval e env) = eval e env)
    (h : wpAny (model prog w) A (eval e env) (fun o s₁ => wpAny (model prog w) A (getAttr o f true) Q E s₁) E s) : wpAny (model prog w) A (eval (.Attribute e f pos) env) Q E s :=
  Attribute_any_ h (by rw [arm_eval_Attribute, hb])
end

/-! ### readings and rules -/
/-- e.f, an attribute of the instance -/
def tFld (K : PySem.W.Frag) (ta : TE) (f : Str) : TE := fun σ H Q => ta σ H fun x H1 => ∃ a C dx fs v, x = .ref a ∧ H1 a = some (.ins C dx fs) ∧ Cls K C ∧ NoAttr K C f ∧ fs.lookup f = some v ∧ Q v H1
/-- e.f, a constant of the class -/
def tCon (K : PySem.W.Frag) (ta : TE) (f : Str) : TE := fun σ H Q => ta σ H fun x H1 => ∃ a C dx fs v u, x = .ref a ∧ H1 a = some (.ins C dx fs) ∧ Cls K C ∧ Con K C f v u ∧ fs.lookup f = none ∧ Q v H1
/-- e.f = value -/
def sFld (K : PySem.W.Frag) (ta tv : TE) (f : Str) : TS := fun D σ H => tv σ H fun y H1 => ta σ H1 fun x H2 => ∃ a C dx fs, x = .ref a ∧ H2 a = some (.ins C dx fs) ∧ Cls K C ∧ NoAttr K C f ∧ fs.length < 1000 ∧
  D.nx σ (upd H2 a (.ins C dx (putF f y fs)))
/-- an augmented operator on two values -/
def InOp (X : Cx) (op : Operator) (rd : V → V → Hp → VK → Prop) : Prop :=
  ∀ (pins : List (Addr × Obj)) (s : Shared) (σ : St) (H : Hp) (x y : V) (u v : Value) (Q : VK), Inv X pins σ H s → RelV x u → RelV y v → rd x y H Q → wpAny (model X.prog X.w) X.A (inplaceOp op u v) (EP X pins σ Q) X.xe s
/-- e.f op= value -/
def sFldAug (K : PySem.W.Frag) (ta tv : TE) (rd : V → V → Hp → VK → Prop) (f : Str) : TS := fun D σ H => ta σ H fun x H1 => ∃ a C dx fs v, x = .ref a ∧ H1 a = some (.ins C dx fs) ∧ Cls K C ∧ NoAttr K C f ∧ fs.lookup f = some v ∧
  tv σ H1 fun y H2 => rd v y H2 fun z H3 => ∃ dx' fs', H3 a = some (.ins C dx' fs') ∧ fs'.length < 1000 ∧ D.nx σ (upd H3 a (.ins C dx' (putF f z fs')))

section
variable {X : Cx} {o e value : Expr} {f : Str} {pos pos' tpos : Pos} {ta tv : TE}
def rAdd : V → V → Hp → VK → Prop := fun x y H Q => ∃ i j, x = .int i ∧ y = .int j ∧ Q (.int (i + j)) H
def rSub : V → V → Hp → VK → Prop := fun x y H Q => ∃ i j, x = .int i ∧ y = .int j ∧ Q (.int (i - j)) H

end

/-! ### isinstance -/
section
variable {X : Cx} {pins : List (Addr × Obj)} {σ : St} {H : Hp} {s : Shared} {A : Around} {E : Value → Shared → Prop} {Q : Value → Shared → Prop} {c : Value} {b : Bool}
/-- the type of a value, as the fragment's deciders take it; for an instance its class -/
inductive TyOf (K : PySem.W.Frag) (H : Hp) : V → Value → Prop where
  | non : TyOf K H .non (.type "NoneType")
  | bl (x : Bool) : TyOf K H (.bl x) (.type "bool")
  | int (i : Int) : TyOf K H (.int i) (.type "int")
  | str (x : Str) : TyOf K H (.str x) (.type "str")
  | flt (x : UInt64) : TyOf K H (.flt x) (.type "float")
  | lst {a : Addr} {xs : List V} (e : H a = some (.lst xs)) : TyOf K H (.ref a) (.type "list")
  | frz {a : Addr} {o : Obj} {xs : List V} (e : H a = some (.frz o (.lst xs))) : TyOf K H (.ref a) (.type "list")
  | tup {a : Addr} {xs : List V} (e : H a = some (.tup xs)) : TyOf K H (.ref a) (.type "tuple")
  | dK {a : Addr} {kvs : List (Key × V)} (e : H a = some (.dK kvs)) : TyOf K H (.ref a) (.type "dict")
  | dT {a : Addr} {kvs : List (List Key × V)} (e : H a = some (.dT kvs)) : TyOf K H (.ref a) (.type "dict")
  | ins {a C dx : Addr} {fs : List (Str × V)} (e : H a = some (.ins C dx fs)) (cl : Cls K C) (ha : PySem.W.findIn K (.ref C) "__class__" = some (some (.builtin "object.__class__")))
      (hn : PySem.W.specialIn K (.builtin "object.__class__") "__get__" = some (some (.builtin "getset_descriptor.__get__"))) (htk : PySem.W.takesIn K (.builtin "object.__class__") = some true)
      (hm : PySem.W.mroIn K C (.type "object") = some true) : TyOf K H (.ref a) (.ref C)
end
end L2

namespace L2
open PySem PySem.Spec PyProof.Rows

/-! ### room -/
structure Room (k : Nat) (A : Around) : Prop where
  hd : A.handled = none
  dp : A.depth + 3 * k + 5 < recursionLimit
  un : A.units + 16 * k + 200 < cLine
theorem Room.mono {j k : Nat} {A : Around} (r : Room k A) (h : j ≤ k) : Room j A := ⟨r.hd, by have := r.dp; omega, by have := r.un; omega⟩
theorem Room.deeper {k : Nat} {A : Around} (r : Room (k + 1) A) (env : Env) : Room k (A.deeper env) :=
  ⟨r.hd, by have := r.dp; show A.depth + 1 + 3 * k + 5 < _; omega, by have := r.un; show A.units + 3 + 16 * k + 200 < _; omega⟩
theorem Room.in1 {k : Nat} {A : Around} (r : Room (k + 1) A) : Room k A.in1 :=
  ⟨r.hd, by have := r.dp; show A.depth + 3 * k + 5 < _; omega, by have := r.un; show A.units + 1 + 16 * k + 200 < _; omega⟩
theorem make_depth {A : Around} {C : Addr} {us : List Value} {kw : List (Str × Value)} : (A.under (.builtin "type.__call__" ⟨.ref C :: us, kw⟩)).depth = A.depth + 1 := by
  first | rfl | simp [Around.under, Code.weight, Code.isCreation, Code.isGuard, Code.isCaller, Code.frames, Code.isFrame, guardIds]
theorem make_units {A : Around} {C : Addr} {us : List Value} {kw : List (Str × Value)} : (A.under (.builtin "type.__call__" ⟨.ref C :: us, kw⟩)).units = A.units + 1 := by
  first | rfl | simp [Around.under, Code.cUnits, Code.frames, Code.isFrame]
theorem Room.make {k : Nat} {A : Around} (r : Room (k + 1) A) (C : Addr) (us : List Value) (kw : List (Str × Value)) : Room k (A.under (.builtin "type.__call__" ⟨.ref C :: us, kw⟩)) :=
  ⟨r.hd, by have := r.dp; rw [make_depth]; omega, by have := r.un; rw [make_units]; omega⟩
theorem Room.depth {k : Nat} {A : Around} (r : Room k A) : A.depth < recursionLimit := by have := r.dp; omega
theorem Room.units {k : Nat} {A : Around} (r : Room k A) : A.units + 64 < cLine := by have := r.un; omega

/-! ### argument lists and displays -/
def tNil : TA := fun _ H Q => Q [] H
def tCons (ta : TE) (tr : TA) : TA := fun σ H Q => ta σ H fun x H1 => tr σ H1 fun xs H2 => Q (x :: xs) H2
section
variable {X : Cx} {e : Expr} {es : List Expr} {te : TE} {t : TA} {pos : Pos}
theorem pa_nil : PA X [] tNil := fun _ _ _ _ H Q I h => Calls.spliced_nil ⟨[], H, I, .nil, h⟩
theorem pa_cons (ha : PE X e te) (hr : PA X es t) (hs : starEach (e :: es) X.env = (false, eval e X.env) :: starEach es X.env := by rfl) : PA X (e :: es) (tCons te t) := by
  intro pos pins s σ H Q I h
  rw [hs]
  show wpAny _ _ (spliced ((false, eval e X.env) :: backTo pos (starEach es X.env))) _ _ s
  refine Calls.spliced_cons (thn (ha pins s σ H _ I h) fun u s1 ⟨x, H1, I1, r1, q1⟩ => ?_)
  exact thn (hr pos pins s1 σ H1 _ I1 q1) fun us s2 ⟨xs, H2, I2, r2, q2⟩ => ⟨x :: xs, H2, I2, .cons r1 r2, q2⟩

/-- a tuple, a list of written items -/
def tTup (t : TA) : TE := fun σ H Q => t σ H fun xs H1 => xs.length ≤ sizeLine ∧ ∀ p, H1 p = none → Q (.ref p) (upd H1 p (.tup xs))
def tLst (t : TA) : TE := fun σ H Q => t σ H fun xs H1 => xs.length ≤ sizeLine ∧ ∀ p, H1 p = none → Q (.ref p) (upd H1 p (.lst xs))
theorem pe_tup {x1} (h : PA X es t) : PE X (.Tuple es x1 pos) (tTup t) := by
  intro pins s σ H Q I hq
  refine wpAny_Tuple_spliced (thn (h pos pins s σ H _ I hq) fun us s1 ⟨xs, H1, I1, r, z, q⟩ => ⟨by rw [← r.length]; exact z, ?_⟩)
  have hf : H1 s1.heap.objs.size = none := I1.hok.fresh (Nat.le_refl _)
  refine ⟨.ref s1.heap.objs.size, upd H1 s1.heap.objs.size (.tup xs), I1.laid (t' := s1.toks) (fun b u e => Heap.get?_push_of_some _ e) (Nat.le_refl _) ?_, rfl, q _ hf⟩
  exact ⟨z, us, r, ⟨_, Heap.get?_push_size _ rfl, rfl, _, rfl⟩⟩
theorem pe_lst (h : PA X es t) : PE X (.List es pos) (tLst t) := by
  intro pins s σ H Q I hq
  refine wpAny_List_spliced (thn (h pos pins s σ H _ I hq) fun us s1 ⟨xs, H1, I1, r, z, q⟩ => ⟨by rw [← r.length]; exact z, ?_⟩)
  have hf : H1 s1.heap.objs.size = none := I1.hok.fresh (Nat.le_refl _)
  refine ⟨.ref s1.heap.objs.size, upd H1 s1.heap.objs.size (.lst xs), I1.laid (t' := s1.toks) (fun b u e => Heap.get?_push_of_some _ e) (Nat.le_refl _) ?_, rfl, q _ hf⟩
  exact ⟨z, us, 0, r, Heap.get?_push_size _ rfl⟩
end

/-! ### what a def promises -/
/-- a def's promise: the bound arguments in the parameters' order, the heap, the wanted end, the wanted exception -/
abbrev Sp := List V → Hp → VK → XK → Prop
/-- how an exception lies behind a call (file 08 gives it): the callers' frames, abstract heap and state ahead of the call, the wish, the exception, the state -/
abbrev CXT := List Env → Hp → Shared → XK → Value → Shared → Prop

/-- the state at a call -/
structure Env0 (P : Program) (w : World) (K : PySem.W.Frag) (mg : Str → Option Value) (base : Heap) (A : Around) (outer : List Env) (s : Shared) (H : Hp) : Prop where
  frames : A.frames = some outer
  mod : Mod K mg base
  bs : ∀ b o, base.get? b = some o → s.heap.get? b = some o ∧ H b = none
  bsz : base.objs.size ≤ s.heap.objs.size
  funs : s.heap.FunFrames base outer
  frf : ∀ b ∈ frs outer, H b = none
  hok : HOk P w H s.heap
  bare : AllBare s.gens
/-- a call's end -/
def CE (outer : List Env) (P : Program) (w : World) (H : Hp) (s : Shared) (Q : VK) (u : Value) (s' : Shared) : Prop :=
  ∃ v H', s'.os = s.os ∧ AllBare s'.gens ∧ Un (frs outer) [] H H' s.heap s'.heap ∧ HOk P w H' s'.heap ∧ RelV v u ∧ Q v H'
def CR (CX : CXT) (outer : List Env) (P : Program) (w : World) (H : Hp) (s : Shared) (Q : VK) (E : XK) (r : Result) (s' : Shared) : Prop :=
  match r with
  | .ok (.ret u) => CE outer P w H s Q u s'
  | .ok _ => False
  | .error e => CX outer H s E e s'
structure FnOk (P : Program) (w : World) (K : PySem.W.Frag) (mg : Str → Option Value) (base : Heap) (CX : CXT) (k : Nat) (f : Addr) (fd : FuncData) (ps : List Str) (sp : Sp) : Prop where
  len : ∀ vs H Q E, sp vs H Q E → vs.length = ps.length
  run : ∀ (A : Around) (outer : List Env) (s : Shared) (H : Hp) (args : Args) (us : List Value) (vs : List V) (Q : VK) (E : XK), Room k A → Env0 P w K mg base A outer s H → BindsTo s fd args (ps.zip us) → Vals vs us → sp vs H Q E →
    codeAny (model P w) A (.call (.ref f) args) (CR CX outer P w H s Q E) s
theorem FnOk.mono {P : Program} {w : World} {K : PySem.W.Frag} {mg : Str → Option Value} {base : Heap} {CX : CXT} {j k : Nat} {f : Addr} {fd : FuncData} {ps : List Str} {sp : Sp} (F : FnOk P w K mg base CX j f fd ps sp) (h : j ≤ k) :
    FnOk P w K mg base CX k f fd ps sp := ⟨F.len, fun A outer s H args us vs Q E hr => F.run A outer s H args us vs Q E (hr.mono h)⟩
/-- a weaker promise -/
theorem FnOk.imp {P : Program} {w : World} {K : PySem.W.Frag} {mg : Str → Option Value} {base : Heap} {CX : CXT} {k : Nat} {f : Addr} {fd : FuncData} {ps : List Str} {sp sp' : Sp} (F : FnOk P w K mg base CX k f fd ps sp)
    (h : ∀ vs H Q E, sp' vs H Q E → sp vs H Q E) : FnOk P w K mg base CX k f fd ps sp' :=
  ⟨fun vs H Q E q => F.len vs H Q E (h _ _ _ _ q), fun A outer s H args us vs Q E hr he hb hv hs => F.run A outer s H args us vs Q E hr he hb hv (h _ _ _ _ hs)⟩

theorem Env0.make {P : Program} {w : World} {K : PySem.W.Frag} {mg : Str → Option Value} {base : Heap} {A : Around} {outer : List Env} {s : Shared} {H : Hp} (e : Env0 P w K mg base A outer s H) (C : Addr) (us : List Value) (kw : List (Str × Value)) :
    Env0 P w K mg base (A.under (.builtin "type.__call__" ⟨.ref C :: us, kw⟩)) outer s H := ⟨by first | exact e.frames | (simpa [Around.under, Code.envs, Code.isFrame, pushEnvs] using e.frames), e.mod, e.bs, e.bsz, e.funs, e.frf, e.hok, e.bare⟩
theorem Env0.in1 {P : Program} {w : World} {K : PySem.W.Frag} {mg : Str → Option Value} {base : Heap} {A : Around} {outer : List Env} {s : Shared} {H : Hp} (e : Env0 P w K mg base A outer s H) :
    Env0 P w K mg base A.in1 outer s H := ⟨e.frames, e.mod, e.bs, e.bsz, e.funs, e.frf, e.hok, e.bare⟩

section
variable {X : Cx} {pins : List (Addr × Obj)} {σ : St} {H : Hp} {s s' : Shared}
/-- from a body: what a callee wants -/
theorem Inv.env0 (I : Inv X pins σ H s) : Env0 X.prog X.w X.K X.mg X.base X.A X.stack s H :=
  ⟨I.ok.frames, I.ok.mod, I.bs, Nat.le_trans I.ok.bsz I.sz, I.stack, I.stkFree, I.hok, I.bare⟩
/-- behind a call -/
theorem Inv.after {Q : VK} {u : Value} (I : Inv X pins σ H s) (h : CE X.stack X.prog X.w H s Q u s') : EP X pins σ Q u s' := by
  obtain ⟨v, H', os, bare, un, hok, r, q⟩ := h
  obtain ⟨hh, g, d, t, os'⟩ := s'
  obtain rfl : os' = s.os := os
  exact ⟨v, H', I.call (h' := hh) (g' := g) (d' := d) (t' := t) (ch := []) un hok bare (fun b z => absurd z (by simp)), r, q⟩
end

/-! ### calls -/
/-- f(..): the written arguments, then the defaults dvs; E: what is wanted of an exception -/
def tCall (sp : Sp) (dvs : List V) (E : XK) (t : TA) : TE := fun σ H Q => t σ H fun vs H1 => sp (vs ++ dvs) H1 Q E
/-- o.m(..) of an instance of the class at C -/
def tMeth (C : Addr) (m : Str) (sp : Sp) (dvs : List V) (E : XK) (ta : TE) (t : TA) : TE := fun σ H Q => ta σ H fun x H1 => ∃ a dx fs, x = .ref a ∧ H1 a = some (.ins C dx fs) ∧ fs.lookup m = none ∧
  t σ H1 fun vs H2 => sp (x :: (vs ++ dvs)) H2 Q E
/-- C(..): a new instance and its dict, then __init__ -/
def tMake (C : Addr) (sp : Sp) (dvs : List V) (E : XK) (t : TA) : TE := fun σ H Q => t σ H fun vs H1 => ∀ x dx, H1 x = none → H1 dx = none → dx ≠ x →
  sp (.ref x :: (vs ++ dvs)) (upd (upd H1 dx (.own x)) x (.ins C dx [])) (fun v H2 => v = .non ∧ Q (.ref x) H2) E

/-- how the parameters are bound: us the positional arguments, kw the keywords' values by name, ds the defaults that fill up -/
def Binds (K : PySem.W.Frag) (fd : FuncData) (ps : List Str) (ds : List Value) : Prop :=
  ∀ (s : Shared) (us : List Value), K.In s.heap → (us ++ ds).length = ps.length → BindsTo s fd ⟨us, []⟩ (ps.zip (us ++ ds))
/-- every parameter is given -/
theorem Binds.all {K : PySem.W.Frag} {fd : FuncData} {ps : List Str} (h : ∀ us : List Value, us.length = ps.length → bindArgs fd ⟨us, []⟩ = pure (ps.zip us)) : Binds K fd ps [] := fun s us _ hl => by
  rw [List.append_nil] at hl ⊢
  exact .of_eq (h us hl)

/-- an exception of a callee reaches what this body wants of exceptions -/
def Passes (CX : CXT) (X : Cx) (E : XK) : Prop := ∀ (pins : List (Addr × Obj)) (σ : St) (H : Hp) (s : Shared) (e : Value) (s' : Shared), Inv X pins σ H s → CX X.stack H s E e s' → X.xe e s'

section
variable {X : Cx} {CX : CXT} {k : Nat} {f C : Addr} {fd : FuncData} {ps : List Str} {sp : Sp} {dvs : List V} {ds : List Value} {E : XK} {x m : Str} {p pos apos : Pos} {e o : Expr} {es : List Expr} {ta : TE} {t : TA}

/-- the callee runs -/
theorem run_fn {pins : List (Addr × Obj)} {σ : St} {H : Hp} {s : Shared} {Q : VK} {us : List Value} {vs : List V} (F : FnOk X.prog X.w X.K X.mg X.base CX k f fd ps sp) (hr : Room k X.A) (hb : Binds X.K fd ps ds) (hd : Vals dvs ds) (hx : Passes CX X E)
    (I : Inv X pins σ H s) (r : Vals vs us) (h : sp (vs ++ dvs) H Q E) : wpAny (model X.prog X.w) X.A (call (.ref f) us) (EP X pins σ Q) X.xe s := by
  have r2 : Vals (vs ++ dvs) (us ++ ds) := r.append hd
  have hl : (us ++ ds).length = ps.length := by rw [← r2.length]; exact F.len _ _ _ _ h
  refine wpAny_call (codeAny_mono (F.run X.A X.stack s H ⟨us, []⟩ (us ++ ds) (vs ++ dvs) Q E hr I.env0 (hb s us I.kIn hl) r2 h) fun r s' hq => ?_)
  cases r with
  | error e => exact hx pins σ H s e s' I hq
  | ok fl =>
    cases fl with
    | ret u => exact I.after hq
    | next => exact False.elim hq
    | brk => exact False.elim hq
    | cont => exact False.elim hq

theorem pe_call (F : FnOk X.prog X.w X.K X.mg X.base CX k f fd ps sp) (hr : Room k X.A) (hg : Gl X x) (hm : X.mg x = some (.ref f)) (hk : PySem.W.keepIn X.K (.ref f) = true) (hb : Binds X.K fd ps ds) (hd : Vals dvs ds) (hx : Passes CX X E)
    (ha : PA X (e :: es) t) (hdb : (x == ("__debug__" : Str)) = false := by decide) (he : starEach (e :: es) X.env = (false, eval e X.env) :: starEach es X.env := by rfl) (hpl : (backTo pos (starEach es X.env)).any (·.1) = false := by rfl) :
    PE X (.Call (.Name x p) (e :: es) [] pos) (tCall sp dvs E t) := by
  intro pins s σ H Q I h
  refine wpAny_Call_Name_kw (ld_glob I hg hm ?_ hdb)
  refine PySem.W.callWith_K (h₀ := X.base) I.ok.mod.kin hk (thn (ha pos pins s σ H _ I h) fun us s1 ⟨vs, H1, I1, r, q⟩ => ⟨I1.kIn, ?_⟩) he hpl
  exact run_fn F hr hb hd hx I1 r q


/-- what a class must have to be made -/
structure Mk (K : PySem.W.Frag) (C f : Addr) : Prop where
  makes : PySem.W.makesIn K C = true
  init : PySem.W.findIn K (.ref C) "__init__" = some (some (.ref f))
  fn : PySem.W.isFn K (.ref f) = true
  kp : PySem.W.keepIn K (.ref C) = true

end

/-! ### keywords -/
/-- the values of the keywords, from the left -/
def PK (X : Cx) (kws : List Keyword) (t : TA) : Prop :=
  ∀ (pos : Pos) (pins : List (Addr × Obj)) (s : Shared) (σ : St) (H : Hp) (Q : List V → Hp → Prop), Inv X pins σ H s → t σ H Q → wpAny (model X.prog X.w) X.A (evalAll ((backToKw pos (keywordEach kws X.env)).map (·.2))) (AP X pins σ Q) X.xe s
section
variable {X : Cx} {CX : CXT} {k : Nat} {f C : Addr} {fd : FuncData} {ps ks : List Str} {sp : Sp} {E : XK} {x m : Str} {p pos apos kpos : Pos} {e o : Expr} {es : List Expr} {kws : List Keyword} {te ta : TE} {t tk : TA} {nm : Option Str}

/-- how a call with keywords binds: g puts the positional values us and the keywords' values ws (names ks) in the parameters' order, defaults among them -/
structure KBinds (K : PySem.W.Frag) (fd : FuncData) (ps ks : List Str) (g : List Value → List Value → List Value) (gV : List V → List V → List V) : Prop where
  to : ∀ (s : Shared) (us ws : List Value), K.In s.heap → (g us ws).length = ps.length → BindsTo s fd ⟨us, ks.zip ws⟩ (ps.zip (g us ws))
  rel : ∀ {vs : List V} {us : List Value} {zs : List V} {ws : List Value}, Vals vs us → Vals zs ws → Vals (gV vs zs) (g us ws)
def tCallK (sp : Sp) (gV : List V → List V → List V) (E : XK) (t tk : TA) : TE := fun σ H Q => t σ H fun vs H1 => tk σ H1 fun zs H2 => sp (gV vs zs) H2 Q E
variable {g : List Value → List Value → List Value} {gV : List V → List V → List V}
end

/-! ### a def's body keeps its promise -/
/-- names: the parameters first -/
structure FnScope (N P : List Str) (sc : Scope) : Prop where
  kind : sc.kind = .function
  co : sc.isCoroutine = false
  gen : sc.isGenerator = false
  nd : N.Nodup
  pre : N.take P.length = P
  par : ∀ x ∈ P, sc.names.lookup x = some .local ∨ sc.names.lookup x = some .cell
  nofree : ∀ y ∈ sc.names, y.2 ≠ .free

theorem bindL_out {kindOf : Str → Option NameKind} {x : Str} : ∀ {binds : List (Str × Value)} {m : Str → Option Value}, (∀ v, (x, v) ∉ binds) → bindL kindOf binds m x = m x
  | [], _, _ => rfl
  | (n, v) :: r, m, h => by
    unfold bindL
    rw [bindL_out fun w hw => h w (List.mem_cons_of_mem _ hw)]
    split
    · have : x ≠ n := by rintro rfl; exact h v List.mem_cons_self
      simp [this]
    · rfl
theorem bindC_out {kindOf : Str → Option NameKind} {x : Str} : ∀ {binds : List (Str × Value)} {m : Str → Option Value}, (∀ v, (x, v) ∉ binds) → bindC kindOf binds m x = m x
  | [], _, _ => rfl
  | (n, v) :: r, m, h => by
    unfold bindC
    rw [bindC_out fun w hw => h w (List.mem_cons_of_mem _ hw)]
    split
    · rfl
    · have : x ≠ n := by rintro rfl; exact h v List.mem_cons_self
      simp [this]
theorem bindL_get {kindOf : Str → Option NameKind} {x : Str} {v : Value} : ∀ {P : List Str} {vs : List Value} {i : Nat} {m : Str → Option Value}, P.Nodup → P[i]? = some x → vs[i]? = some v → kindOf x = some .local →
    bindL kindOf (P.zip vs) m x = some v
  | [], _, _, _, _, h, _, _ => by simp at h
  | _ :: _, [], _, _, _, _, h, _ => by simp at h
  | p :: P, w :: vs, 0, m, nd, h1, h2, hk => by
    simp at h1 h2; subst h1; subst h2
    show bindL kindOf ((p, w) :: P.zip vs) m p = _
    unfold bindL
    rw [bindL_out fun v hv => (List.nodup_cons.mp nd).1 (List.of_mem_zip hv).1, if_pos hk]
    simp
  | p :: P, w :: vs, i + 1, m, nd, h1, h2, hk => by
    show bindL kindOf ((p, w) :: P.zip vs) m x = _
    unfold bindL
    exact bindL_get (i := i) (List.nodup_cons.mp nd).2 (by simpa using h1) (by simpa using h2) hk
theorem bindC_get {kindOf : Str → Option NameKind} {x : Str} {v : Value} : ∀ {P : List Str} {vs : List Value} {i : Nat} {m : Str → Option Value}, P.Nodup → P[i]? = some x → vs[i]? = some v → kindOf x ≠ some .local →
    bindC kindOf (P.zip vs) m x = some v
  | [], _, _, _, _, h, _, _ => by simp at h
  | _ :: _, [], _, _, _, _, h, _ => by simp at h
  | p :: P, w :: vs, 0, m, nd, h1, h2, hk => by
    simp at h1 h2; subst h1; subst h2
    show bindC kindOf ((p, w) :: P.zip vs) m p = _
    unfold bindC
    rw [bindC_out fun v hv => (List.nodup_cons.mp nd).1 (List.of_mem_zip hv).1, if_neg hk]
    simp
  | p :: P, w :: vs, i + 1, m, nd, h1, h2, hk => by
    show bindC kindOf ((p, w) :: P.zip vs) m x = _
    unfold bindC
    exact bindC_get (i := i) (List.nodup_cons.mp nd).2 (by simpa using h1) (by simpa using h2) hk

/-- the names' values at the entry -/
def start (N : List Str) (vs : List V) : St := vs.map some ++ List.replicate (N.length - vs.length) none

/-- the context of a def's body, at its entry; an exception leaves the frame, then lies as CX says -/
def cxOf (CX : CXT) (P : Program) (w : World) (K : PySem.W.Frag) (mg : Str → Option Value) (base : Heap) (N : List Str) (qual : Str) (scope : Scope) (f : Addr) (cd : Value) (A : Around) (outer : List Env) (s : Shared) (H : Hp) (E : XK) : Cx where
  prog := P
  w := w
  K := K
  mg := mg
  base := base
  A := A.deeper (envOfC qual scope s.heap.objs.size f cd)
  N := N
  s₀ := s
  H₀ := H
  env := envOfC qual scope s.heap.objs.size f cd
  outer := outer
  stack := envOfC qual scope s.heap.objs.size f cd :: outer
  ex := []
  calm := true
  fn := fun _ => true
  pn := []
  xe := fun e s' => wpAny (model P w) (A.deeper (envOfC qual scope s.heap.objs.size f cd)) (leaving (envOfC qual scope s.heap.objs.size f cd) e) (fun _ s'' => CX outer H s E e s'') (fun e' s'' => CX outer H s E e' s'') s'

theorem cell_has {sc : Scope} {n : Nat} {x : Str} (h : sc.names.lookup x = some .cell) : ∃ c, (cellsFrom n sc.names []).lookup x = some c := by
  have q := PySem.W.cellsFrom_some sc.names n [] (.inl h)
  exact Option.isSome_iff_exists.mp q

theorem inv_start {CX : CXT} {P : Program} {w : World} {K : PySem.W.Frag} {mg : Str → Option Value} {base : Heap} {N ps : List Str} {qual : Str} {scope : Scope} {f : Addr} {cd : Value} {A : Around} {outer : List Env} {s s1 : Shared} {H : Hp} {E : XK} {us : List Value} {vs : List V}
    (S : FnScope N ps scope) (hd : A.handled = none) (e0 : Env0 P w K mg base A outer s H) (hl : vs.length = ps.length) (r : Vals vs us)
    (x : InCallC s s.heap.objs.size (bindL (envOfC qual scope s.heap.objs.size f cd).kindOf (ps.zip us) fun _ => none) (cellsFrom (s.heap.objs.size + 1) scope.names []) (bindC (envOfC qual scope s.heap.objs.size f cd).kindOf (ps.zip us) fun _ => none) s1) :
    Inv (cxOf CX P w K mg base N qual scope f cd A outer s H E) [] (start N vs) H s1 := by
  have hpl : ps.length ≤ N.length := by have := congrArg List.length S.pre; rw [List.length_take] at this; omega
  obtain ⟨h1, tk, rfl, hk⟩ := x.done
  have noA : ∀ b : Addr, b ∉ (cxOf CX P w K mg base N qual scope f cd A outer s H E).ex := fun b z => absurd (show b ∈ ([] : List Addr) from z) (by simp)
  refine ⟨⟨e0.mod, S.kind, rfl, rfl, Nat.le_refl _, fun y z c h1 h2 => ?_, fun y hy => ?_, fun y c _ h => ?_, fun _ => hd, Around.frames_deeper e0.frames, .inr ⟨rfl, rfl⟩, fun b z => absurd z (noA b), e0.bs, e0.bsz, fun b _ _ => noA b, fun b z => absurd z (noA b), e0.funs, e0.frf⟩,
    rfl, e0.bare, Un.kept hk, ⟨_, x.toInCall.ns, fun i y v h1 h2 h3 => ?_⟩, fun y c h => ⟨_, x.cell y c h⟩, e0.hok.fresh (Nat.le_refl _), fun y c h => ?_, fun p hp => absurd (show p ∈ ([] : List (Addr × Obj)) from hp) (by simp), e0.hok.kept hk, ?_⟩
  · exact name_of_addr x.apart (PySem.mem_of_lookup h1) (PySem.mem_of_lookup h2)
  · have hy : scope.names.lookup y = some .cell ∨ scope.names.lookup y = some .free := hy
    rcases hy with hy | hy
    · exact cell_has hy
    · exact absurd rfl (S.nofree _ (PySem.mem_of_lookup hy))
  · exact Nat.le_of_lt (x.above y c (PySem.mem_of_lookup h))
  · have hi : i < vs.length := by
      unfold start at h2
      by_cases hi : i < vs.length
      · exact hi
      · rw [List.getElem?_append_right (by simpa using hi)] at h2
        rw [List.getElem?_replicate] at h2
        split at h2 <;> cases h2
    have ha : vs[i]? = some v := by
      unfold start at h2
      rw [List.getElem?_append_left (by simpa using hi), List.getElem?_map] at h2
      cases e : vs[i]? with
      | none => rw [e] at h2; cases h2
      | some a => rw [e] at h2; cases h2; rfl
    obtain ⟨u, hu, rv⟩ := r.get ha
    have hp : ps[i]? = some y := by
      rw [← S.pre, List.getElem?_take_of_lt (by omega)]; exact h1
    have ndP : ps.Nodup := by rw [← S.pre]; exact S.nd.sublist (List.take_sublist _ _)
    refine ⟨u, rv, ?_⟩
    rcases S.par y (List.mem_of_getElem? hp) with k | k
    · exact .inl ⟨k, bindL_get ndP hp hu k⟩
    · obtain ⟨c, e⟩ := cell_has (n := s.heap.objs.size + 1) k
      refine .inr ⟨.inl k, c, e, ?_⟩
      have q := x.cell y c e
      rw [bindC_get ndP hp hu (by show scope.names.lookup y ≠ _; rw [k]; decide)] at q
      exact q
  · exact e0.hok.fresh (Nat.le_of_lt (x.above y c (PySem.mem_of_lookup h)))
  · unfold start
    show _ = N.length
    rw [List.length_append, List.length_map, List.length_replicate]
    omega

/-- THE RULE: a def (or a method) of the text, by its body. The body's reading t is chosen for each entry; it is run at the parameters' values -/
theorem fn_of {CX : CXT} {P : Program} {w : World} {K : PySem.W.Frag} {mg : Str → Option Value} {base : Heap} {k : Nat} {f : Addr} {name qual : Str} {params : Arguments} {body : List Stmt} {scope : Scope} {dV kV doc pm cdv ct oc : Value} {an od : Option Addr}
    {osl : Array (Option Value)} {N ps : List Str} {sp : Sp} (lk : K.lookup f = some ⟨oc, od, .func (PySem.W.fnOf name qual params body scope dV kV doc pm an cdv ct), osl⟩) (hcd : PySem.W.codeIn K cdv qual = true) (S : FnScope N ps scope)
    (len : ∀ vs H Q E, sp vs H Q E → vs.length = ps.length)
    (hbody : ∀ (A : Around) (outer : List Env) (s : Shared) (H : Hp) (vs : List V) (Q : VK) (E : XK), Room k (A.deeper (envOfC qual scope s.heap.objs.size f cdv)) → sp vs H Q E →
      ∃ t, PSs (cxOf CX P w K mg base N qual scope f cdv A outer s H E) body t ∧ t { nx := fun _ H' => Q .non H', rt := Q } (start N vs) H) :
    FnOk P w K mg base CX (k + 1) f (PySem.W.fnOf name qual params body scope dV kV doc pm an cdv ct) ps sp := by
  refine ⟨len, fun A outer s H args us vs Q E hr e0 hb r hsp => ?_⟩
  have hl := len _ _ _ _ hsp
  have KX : K.In s.heap := e0.mod.kin.keeps fun b o e => (e0.bs b o e).1
  have lim : s.heap.NoLimit := e0.mod.nolimit.keeps fun b o e => (e0.bs b o e).1
  have hkind : ∀ y ∈ ps.zip us, scope.names.lookup y.1 = some .local ∨ (scope.names.lookup y.1 = some .cell ∧ ((cellsFrom (s.heap.objs.size + 1) scope.names []).lookup y.1).isSome = true) := fun ⟨n, v⟩ hy => by
    rcases S.par n (List.of_mem_zip hy).1 with q | q
    · exact .inl q
    · exact .inr ⟨q, PySem.W.cellsFrom_some _ _ _ (.inl q)⟩
  refine codeAny_call_function hr.depth (KX _ _ lk) rfl S.co S.gen rfl (PySem.W.codeRec_of KX hcd) (hb _ _ _ _ ?_)
  refine wpAny_newFunctionEnv_cells S.kind hkind fun env he s1 x => ?_
  subst he
  refine ⟨lim.keeps x.toInCall.keep, codeAny_func ?_⟩
  obtain ⟨t, ht, hq⟩ := hbody A outer s H vs Q E (hr.deeper _) hsp
  have I : Inv (cxOf CX P w K mg base N qual scope f cdv A outer s H E) [] (start N vs) H s1 := inv_start S hr.hd e0 hl r x
  refine wpAny_mono (ht [] s1 (start N vs) H _ I hq) (fun fl s' hs => ?_) fun e s' hs => hs
  have fin : ∀ {σ' : St} {H' : Hp} {v : V} {u : Value}, Inv (cxOf CX P w K mg base N qual scope f cdv A outer s H E) [] σ' H' s' → RelV v u → Q v H' → CE outer P w H s Q u s' :=
    fun {σ' H' v u} J rv q => ⟨v, H', J.os, J.bare, J.base, J.hok, rv, q⟩
  cases fl with
  | ret u =>
    obtain ⟨v, σ', H', J, rv, q⟩ := hs
    exact fin J rv q
  | next =>
    obtain ⟨σ', H', J, q⟩ := hs
    exact fin (v := V.non) (u := Value.none) J rfl q
  | brk =>
    obtain ⟨_, _, _, q⟩ := hs
    exact False.elim q
  | cont =>
    obtain ⟨_, _, _, q⟩ := hs
    exact False.elim q
end L2

namespace L2
open PySem PySem.Spec PyProof.Rows
section
variable {X : Cx} {x : Str} {p pos : Pos} {e : Expr} {es : List Expr} {t : TA} {id T : String} {r : List V → Hp → VK → Prop}

def tCB (r : List V → Hp → VK → Prop) (t : TA) : TE := fun σ H Q => t σ H fun vs H1 => r vs H1 Q
/-- f(e, ..), f a built-in function -/
theorem pe_callB (hc : CallR X (.builtin id) r) (hg : Gl X x) (hm : X.mg x = none) (hv : bootBuiltins x = some (.builtin id)) (ha : PA X (e :: es) t) (hn : x ≠ "__name__" := by decide) (hdb : (x == ("__debug__" : Str)) = false := by decide)
    (he : starEach (e :: es) X.env = (false, eval e X.env) :: starEach es X.env := by rfl) (hpl : (backTo pos (starEach es X.env)).any (·.1) = false := by rfl) : PE X (.Call (.Name x p) (e :: es) [] pos) (tCB r t) := by
  intro pins s σ H Q I h
  refine wpAny_Call_Name_kw (ld_blt I hg hm hv ?_ hn hdb)
  exact PyProof.Rows.callWith_builtin1 (thn (ha pos pins s σ H _ I h) fun us s1 ⟨vs, H1, I1, r1, q1⟩ => hc pins s1 σ H1 vs us Q I1 r1 q1) he hpl
/-- T(e, ..), T a built-in type -/
theorem pe_callTy (hc : CallR X (.type T) r) (hg : Gl X x) (hm : X.mg x = none) (hv : bootBuiltins x = some (.type T)) (ha : PA X (e :: es) t) (hn : x ≠ "__name__" := by decide) (hdb : (x == ("__debug__" : Str)) = false := by decide)
    (he : starEach (e :: es) X.env = (false, eval e X.env) :: starEach es X.env := by rfl) (hpl : (backTo pos (starEach es X.env)).any (·.1) = false := by rfl) : PE X (.Call (.Name x p) (e :: es) [] pos) (tCB r t) := by
  intro pins s σ H Q I h
  refine wpAny_Call_Name_kw (ld_blt I hg hm hv ?_ hn hdb)
  exact PyProof.Rows.callWith_type1 (thn (ha pos pins s σ H _ I h) fun us s1 ⟨vs, H1, I1, r1, q1⟩ => hc pins s1 σ H1 vs us Q I1 r1 q1) he hpl
end
end L2

namespace HT
open PySem PyProof.Rows

/-- t < u of tuples of ints -/
def lexLt : List Int → List Int → Bool
  | [], [] => false
  | [], _ :: _ => true
  | _ :: _, [] => false
  | x :: xs, y :: ys => if x = y then lexLt xs ys else decide (x < y)


section
open PySem.SeqAt
open PySem.AutoSeq1 (wpAny_loadPart')
open PySem.MeetsSeq PySem.MeetsSeq2 PySem.MeetsSeq3

end

section
variable {prog : Program} {w : World} {A : Around} {E : Value → Shared → Prop} {s : Shared}



/-! ### t[a:b], not the whole -/
/-- a slice's bound as a place among n (d where it is left out) -/
def sIx (n d : Nat) : Option Int → Nat
  | none => d
  | some v => if v < 0 then (v + (n : Int)).toNat else min v.toNat n
theorem sIx_none (n d : Nat) : sIx n d none = d := rfl
theorem sIx_nat (n d k : Nat) : sIx n d (some (k : Int)) = min k n := by
  show (if (k : Int) < 0 then ((k : Int) + (n : Int)).toNat else min (k : Int).toNat n) = min k n
  rw [if_neg (by omega), Int.toNat_natCast]
theorem sIx_le (n d : Nat) (hd : d ≤ n) (o : Option Int) : sIx n d o ≤ n := by
  cases o with
  | none => exact hd
  | some v =>
    show (if v < 0 then (v + (n : Int)).toNat else min v.toNat n) ≤ n
    by_cases hv : v < 0
    · rw [if_pos hv]; omega
    · rw [if_neg hv]; exact Nat.min_le_right _ _
theorem clip_eq (v : Int) (n d : Nat) : (if v < 0 then max (v + (n : Int)) 0 else min v (n : Int)) = ((sIx n d (some v) : Nat) : Int) := by
  show (if v < 0 then max (v + (n : Int)) 0 else min v (n : Int)) = (((if v < 0 then (v + (n : Int)).toNat else min v.toNat n) : Nat) : Int)
  by_cases hv : v < 0
  · simp only [if_pos hv]; omega
  · simp only [if_neg hv]; omega
theorem adjust_gen (lo hi : Option Int) (n : Nat) : Builtin.Slice.sliceAdjust lo hi 1 (n : Int) = (((sIx n 0 lo : Nat) : Int), ((sIx n n hi : Nat) : Int)) := by
  have h1 : ¬ ((1 : Int) < 0) := by omega
  unfold Builtin.Slice.sliceAdjust
  simp only [h1, if_false]
  refine Prod.ext ?_ ?_
  · cases lo with
    | none => rfl
    | some v => exact clip_eq v n 0
  · cases hi with
    | none => rfl
    | some v => exact clip_eq v n n
theorem places_gen (i j : Nat) : Builtin.Slice.slicePlaces (i : Int) (j : Int) 1 = j - i := by
  unfold Builtin.Slice.slicePlaces
  have h1 : (1 : Int) > 0 := by omega
  simp only [h1, if_true, Int.ediv_one]
  split <;> omega
theorem slicePart_ {v : Value} {o : Option Int} {Q : Option Int → Shared → Prop} (p : IsPart v o) (h : Q o s) : wpAny (model prog w) A (Builtin.Slice.slicePartIndex v) Q E s := by
  cases p with
  | none => exact slicePart_none h
  | int i t => exact slicePart_int h
theorem sliceApplied_gen {sl : Addr} {vl vu : Value} {lo hi : Option Int} {n : Nat} {Q : Int × Int × Nat → Shared → Prop} (hs : s.heap.IsSliceOf sl vl vu .none) (pl : IsPart vl lo) (pu : IsPart vu hi)
    (h : Q (((sIx n 0 lo : Nat) : Int), 1, sIx n n hi - sIx n 0 lo) s) : wpAny (model prog w) A (Builtin.Slice.sliceApplied (.ref sl) (pure (n : Int))) Q E s := by
  obtain ⟨os, hos, hcs, hds⟩ := id hs
  unfold Builtin.Slice.sliceApplied Builtin.Slice.sliceFields
  refine wpAny_bind (wpAny_bind (wpAny_field hos hds (x := vl) rfl (wpAny_bind (wpAny_field hos hds (x := vu) rfl (wpAny_bind (wpAny_field hos hds (x := .none) rfl (wpAny_pure ?_)))))))
  refine wpAny_bind (slicePart_none ?_)
  show wpAny _ _ (if ((1 : Int) == 0) = true then _ else _) _ _ s
  rw [if_neg (by decide)]
  refine wpAny_bind (slicePart_ pl (wpAny_bind (slicePart_ pu (wpAny_bind (wpAny_pure ?_)))))
  show wpAny _ _ (match Builtin.Slice.sliceAdjust lo hi 1 (n : Int) with | (lo, hi) => pure (lo, (1 : Int), Builtin.Slice.slicePlaces lo hi 1)) _ _ s
  rw [adjust_gen lo hi n]
  show wpAny _ _ (pure (((sIx n 0 lo : Nat) : Int), (1 : Int), Builtin.Slice.slicePlaces ((sIx n 0 lo : Nat) : Int) ((sIx n n hi : Nat) : Int) 1)) _ _ s
  rw [places_gen]
  exact wpAny_pure h
theorem pick_gen (xs : Array Value) (i k : Nat) : ((List.range k).filterMap fun (m : Nat) => xs[((i : Int) + (m : Int) * 1).toNat]?).toArray = ((xs.toList.drop i).take k).toArray := by
  have e : (fun (m : Nat) => xs[((i : Int) + (m : Int) * 1).toNat]?) = fun m => xs[i + m]? := by
    funext m
    have : ((i : Int) + (m : Int) * 1).toNat = i + m := by omega
    rw [this]
  rw [e]
  have := pick_run xs i k
  rw [List.filterMap_map] at this
  have e2 : ((fun x => xs[x]?) ∘ fun x => i + x) = fun m => xs[i + m]? := rfl
  rw [e2] at this
  rw [this]

theorem getItem_tuple_cut {t sl : Addr} {items : Array Value} {vl vu : Value} {lo hi : Option Int} {Q : Value → Shared → Prop} (ht : IsTup s.heap t items) (hs : s.heap.IsSliceOf sl vl vu .none) (pl : IsPart vl lo) (pu : IsPart vu hi)
    (hw : ¬ (sIx items.size 0 lo = 0 ∧ sIx items.size items.size hi = items.size))
    (h : Q (.ref s.heap.objs.size) { s with heap := s.heap.push { cls := .type "tuple", data := .seq ((items.toList.drop (sIx items.size 0 lo)).take (sIx items.size items.size hi - sIx items.size 0 lo)).toArray } })
    (hsz : items.size ≤ sizeLine) : wpAny (model prog w) A (getItem (.ref t) (.ref sl)) Q E s := by
  have htake : sizeOk (.seq ((items.toList.drop (sIx items.size 0 lo)).take (sIx items.size items.size hi - sIx items.size 0 lo)).toArray) := by
    show ((items.toList.drop (sIx items.size 0 lo)).take (sIx items.size items.size hi - sIx items.size 0 lo)).toArray.size ≤ sizeLine
    rw [List.size_toArray, List.length_take, List.length_drop, Array.length_toList]
    omega
  have hj : sIx items.size items.size hi ≤ items.size := sIx_le _ _ (Nat.le_refl _) hi
  obtain ⟨os, hos, hcs, hds⟩ := id hs
  have hTs : s.TypeIs (.ref sl) "slice" := ⟨os, hos, hcs⟩
  unfold getItem
  try with_reducible refine wpAny_holding ?_
  first | refine wpAny_bind (wpAny_pure ?_) | skip
  refine wpAny_bind (wpAny_sequenceKey ht.typeIs (by decide) ?_)
  refine wpAny_bind (wpAny_callSpecial?_slot (name := Str.ofString "__getitem__") ht.typeIs PyProof.Rows.slot_tuple_getitem
    (wpAny_call_entry PyProof.Rows.slot_tuple_getitem ht.typeIs entry_tuple_getitem ?_ (args_tuple_getitem _ _)))
  show wpAny _ _ (Builtin.Tuple.tupleItemsOf (.ref t) >>= _) _ _ s
  refine wpAny_bind (tupleItemsOf_ ht ?_)
  refine wpAny_bind (wpAny_typeOf hTs ?_)
  rw [if_pos (by decide)]
  refine wpAny_bind (sliceApplied_gen hs pl pu ?_)
  have hno : ¬ ((((sIx items.size 0 lo : Nat) : Int) == 0 && (1 : Int) == 1 && (sIx items.size items.size hi - sIx items.size 0 lo) == items.size) = true) := by
    intro q
    rw [Bool.and_eq_true, Bool.and_eq_true] at q
    have q1 : ((sIx items.size 0 lo : Nat) : Int) = 0 := eq_of_beq q.1.1
    have q2 : sIx items.size items.size hi - sIx items.size 0 lo = items.size := eq_of_beq q.2
    exact hw ⟨by omega, by omega⟩
  show wpAny _ _ (if (((sIx items.size 0 lo : Nat) : Int) == 0 && (1 : Int) == 1 && (sIx items.size items.size hi - sIx items.size 0 lo) == items.size) = true then _ else _) _ _ s
  rw [if_neg hno, pick_gen]
  first
    | exact wpAny_bind (m := Builtin.Tuple.tupleExact _) (wpAny_newObj_type (wpAny_pure ⟨_, rfl, wpAny_pure h⟩) htake)
    | exact wpAny_bind (m := Builtin.Tuple.tupleExact _) (wpAny_newObj_type (wpAny_bind (wpAny_pure (wpAny_pure ⟨_, rfl, wpAny_pure h⟩))) htake)
    | exact wpAny_bind (wpAny_bind (m := Builtin.Tuple.tupleExact _) (wpAny_newObj_type (wpAny_pure (wpAny_pure ⟨_, rfl, wpAny_pure h⟩)) htake))
    | exact wpAny_bind (wpAny_bind (m := Builtin.Tuple.tupleExact _) (wpAny_newObj_type (wpAny_pure ⟨_, rfl, wpAny_pure h⟩) htake))
end
end HT

namespace L2
open PySem PySem.Spec PyProof.Rows

/-! ### the parts of a slice -/
abbrev TO := St → Hp → (Option Int → Hp → Prop) → Prop
/-- a slice's part (left out, or an int) -/
def PO (X : Cx) (e : Option Expr) (t : TO) : Prop :=
  ∀ (pins : List (Addr × Obj)) (s : Shared) (σ : St) (H : Hp) (Q : Option Int → Hp → Prop), Inv X pins σ H s → t σ H Q →
    wpAny (model X.prog X.w) X.A (evalPart e X.env) (fun u s' => ∃ o H', Inv X pins σ H' s' ∧ IsPart u o ∧ Q o H') X.xe s
def tNoPart : TO := fun _ H Q => Q none H
def tPart (t : TE) : TO := fun σ H Q => t σ H fun x H1 => ∃ i, x = .int i ∧ Q (some i) H1


section
variable {X : Cx} {e : Expr} {te : TE} {lo hi : Option Expr} {tl th : TO} {pos p2 : Pos}

theorem po_none : PO X none tNoPart := by
  intro pins s σ H Q I h
  rw [evalPart_none]
  exact wpAny_pure ⟨none, H, I, .none, h⟩
theorem po_some (h : PE X e te) : PO X (some e) (tPart te) := by
  intro pins s σ H Q I hw
  rw [evalPart_some]
  refine thn (h pins s σ H _ I hw) fun u s1 ⟨x, H1, I1, r1, q1⟩ => ?_
  obtain ⟨i, rfl, q⟩ := q1
  obtain ⟨t, rfl⟩ := r1
  exact ⟨some i, H1, I1, .int i t, q⟩

/-- what a slice of a value is, by values: the slice object stands at sl -/
def SlR (X : Cx) (r : V → Option Int → Option Int → Hp → VK → Prop) : Prop :=
  ∀ (pins : List (Addr × Obj)) (s : Shared) (σ : St) (H : Hp) (x : V) (v vl vu : Value) (lo hi : Option Int) (sl : Addr) (Q : VK), Inv X pins σ H s → RelV x v → s.heap.IsSliceOf sl vl vu .none → IsPart vl lo → IsPart vu hi → r x lo hi H Q →
    ∃ T id, typeLookup (.type T) "__getitem__" = pure (some (.builtin id)) ∧ s.TypeIs v T ∧ wpAny (model X.prog X.w) X.A (getItem v (.ref sl)) (EP X pins σ Q) X.xe s
theorem SlR.or {r r' : V → Option Int → Option Int → Hp → VK → Prop} (h : SlR X r) (h' : SlR X r') : SlR X (fun x lo hi H Q => r x lo hi H Q ∨ r' x lo hi H Q) := by
  intro pins s σ H x v vl vu lo hi sl Q I rx hs pl pu q
  rcases q with q | q
  · exact h pins s σ H x v vl vu lo hi sl Q I rx hs pl pu q
  · exact h' pins s σ H x v vl vu lo hi sl Q I rx hs pl pu q
def tSl (r : V → Option Int → Option Int → Hp → VK → Prop) (te : TE) (tl th : TO) : TE := fun σ H Q => te σ H fun x H1 => tl σ H1 fun l H2 => th σ H2 fun u H3 => r x l u H3 Q
/-- a[lo:hi], any a -/
theorem pe_slice {r : V → Option Int → Option Int → Hp → VK → Prop} (hr : SlR X r) (he : PE X e te) (hl : PO X lo tl) (hu : PO X hi th) : PE X (.Subscript e (.Slice lo hi none p2) pos) (tSl r te tl th) := by
  intro pins s σ H Q I h
  refine Subscript_ (thn (he pins s σ H _ I h) fun v s1 ⟨x, H1, I1, r1, q1⟩ => ?_)
  refine wpAny_Slice (thn (hl pins s1 σ H1 _ I1 q1) fun vl s2 ⟨l, H2, I2, pl, q2⟩ => thn (hu pins s2 σ H2 _ I2 q2) fun vu s3 ⟨u, H3, I3, pu, q3⟩ => ?_)
  rw [evalPart_none]
  refine wpAny_pure ?_
  have I4 : Inv X pins σ H3 { s3 with heap := s3.heap.push { cls := .type "slice", data := .fields #[vl, vu, .none] } } := I3.kept (t' := s3.toks) fun b ob q => Heap.get?_push_of_some _ q
  obtain ⟨T, id, hT, ht, hg⟩ := hr pins { s3 with heap := s3.heap.push { cls := .type "slice", data := .fields #[vl, vu, .none] } } σ H3 x v vl vu l u s3.heap.objs.size Q I4 r1 (Heap.IsSliceOf.new ..) pl pu q3
  show wpAny (model X.prog X.w) X.A (subscriptTail e (.Slice lo hi none p2) v (.ref s3.heap.objs.size)) (EP X pins σ Q) X.xe { s3 with heap := s3.heap.push { cls := .type "slice", data := .fields #[vl, vu, .none] } }
  exact tail_any (ops := [.ref s3.heap.objs.size, v]) ht hT hg (by with_unfolding_all rfl)

/-- the items of xs[lo:hi] -/
def cutV (xs : List V) (lo hi : Option Int) : List V := (xs.drop (HT.sIx xs.length 0 lo)).take (HT.sIx xs.length xs.length hi - HT.sIx xs.length 0 lo)
theorem cutV_length (xs : List V) (lo hi : Option Int) : (cutV xs lo hi).length ≤ xs.length := by
  unfold cutV
  rw [List.length_take, List.length_drop]
  omega
/-- t[lo:hi], not the whole of it (the whole would be t itself) -/
def rSlT (K : PySem.W.Frag) : V → Option Int → Option Int → Hp → VK → Prop := fun x lo hi H Q => ∃ a xs, x = .ref a ∧ SqT K H a xs ∧
  ¬ (HT.sIx xs.length 0 lo = 0 ∧ HT.sIx xs.length xs.length hi = xs.length) ∧ ∀ p, H p = none → Q (.ref p) (upd H p (.tup (cutV xs lo hi)))
theorem sl_tup : SlR X (rSlT X.K) := by
  intro pins s σ H x v vl vu lo hi sl Q I rx hs pl pu h
  obtain ⟨a, xs, rfl, hx, hw, q⟩ := h
  cases rx
  obtain ⟨its, r, ht, hz⟩ := I.tuple hx
  have hlen : its.toArray.size = xs.length := by rw [List.size_toArray]; exact r.length.symm
  refine ⟨"tuple", _, PyProof.Rows.slot_tuple_getitem.lookup, ht.typeIs, ?_⟩
  refine HT.getItem_tuple_cut ht hs pl pu (by rw [hlen]; exact hw) ?_ (by rw [hlen]; exact hz)
  rw [hlen]
  refine ⟨.ref s.heap.objs.size, _, I.laid (t' := s.toks) (o := .tup (cutV xs lo hi)) (fun b ob q => Heap.get?_push_of_some _ q) (Nat.le_refl _) ?_, rfl, q _ (I.hok.fresh (Nat.le_refl _))⟩
  exact ⟨Nat.le_trans (cutV_length xs lo hi) hz, _, (r.drop (HT.sIx xs.length 0 lo)).take (HT.sIx xs.length xs.length hi - HT.sIx xs.length 0 lo), IsTup.new _ _⟩

/-! ### t < u, t + u -/
def rLtT (K : PySem.W.Frag) : R2 := fun x y H Q => ∃ a b ns ms, x = .ref a ∧ y = .ref b ∧ SqT K H a (ns.map V.int) ∧ SqT K H b (ms.map V.int) ∧ Q (.bl (HT.lexLt ns ms)) H
/-- t + u, t not empty: u empty gives t itself -/
def rCatT (K : PySem.W.Frag) : R2 := fun x y H Q => ∃ a b xs ys, x = .ref a ∧ y = .ref b ∧ SqT K H a xs ∧ SqT K H b ys ∧ xs ≠ [] ∧ xs.length + ys.length ≤ sizeLine ∧
  (ys = [] → Q (.ref a) H) ∧ (ys ≠ [] → ∀ p, H p = none → Q (.ref p) (upd H p (.tup (xs ++ ys))))
end
end L2

namespace L2
open PySem PySem.Spec PyProof.Rows

/-! ### places -/
/-- the place that an index of any sign means -/
def ixN (n : Nat) (i : Int) : Option Nat := if 0 ≤ i then (if i < n then some i.toNat else none) else if -(n : Int) ≤ i then some (i + n).toNat else none
def atI {α : Type} (xs : List α) (i : Int) : Option α := (ixN xs.length i).bind fun j => xs[j]?
theorem ixN_seq {n : Nat} {i : Int} {j : Nat} (h : ixN n i = some j) : seqIndex? i n = some j ∧ j < n ∧ -(n : Int) ≤ i ∧ i < n := by
  unfold ixN at h
  by_cases h0 : 0 ≤ i
  · rw [if_pos h0] at h
    by_cases h1 : i < n
    · rw [if_pos h1] at h
      have e : i.toNat = j := Option.some.inj h
      exact ⟨by rw [seqIndex_of h0 h1, e], by omega, by omega, h1⟩
    · rw [if_neg h1] at h; cases h
  · rw [if_neg h0] at h
    by_cases h1 : -(n : Int) ≤ i
    · rw [if_pos h1] at h
      have e : (i + n).toNat = j := Option.some.inj h
      exact ⟨by rw [seqIndex_neg (by omega) h1, e], by omega, h1, by omega⟩
    · rw [if_neg h1] at h; cases h
theorem atI_get {α : Type} {xs : List α} {i : Int} {v : α} (h : atI xs i = some v) : ∃ j, seqIndex? i xs.length = some j ∧ xs[j]? = some v ∧ j < xs.length ∧ -(xs.length : Int) ≤ i ∧ i < xs.length := by
  unfold atI at h
  cases e : ixN xs.length i with
  | none => rw [e] at h; cases h
  | some j =>
    rw [e] at h
    obtain ⟨h1, h2, h3, h4⟩ := ixN_seq e
    exact ⟨j, h1, h, h2, h3, h4⟩
theorem atI_nat {α : Type} {xs : List α} {j : Nat} {v : α} (h : xs[j]? = some v) : atI xs (j : Int) = some v := by
  have hj : j < xs.length := (List.getElem?_eq_some_iff.mp h).1
  have e : ixN xs.length (j : Int) = some j := by
    unfold ixN
    rw [if_pos (by omega), if_pos (by omega)]; simp
  unfold atI; rw [e]; exact h

/-! ### what may be subscripted -/
/-- what stands as an index of a plain subscript -/
def PlainIx (b : Expr) : Prop := ∀ o i, subscripted b false o i = operate [o, i] (getItem o i)
/-- a subscript by values -/
def IxR (X : Cx) (r : R2) : Prop :=
  ∀ (value slice : Expr) (pins : List (Addr × Obj)) (s : Shared) (σ : St) (H : Hp) (x y : V) (v u : Value) (Q : VK), Inv X pins σ H s → RelV x v → RelV y u → r x y H Q →
    subscripted slice false v u = operate [v, u] (getItem v u) → wpAny (model X.prog X.w) X.A (subscriptTail value slice v u) (EP X pins σ Q) X.xe s
/-- a call of a builtin's method by values: the receiver, the arguments -/
def MtR (X : Cx) (id : String) (r : V → List V → Hp → VK → Prop) : Prop :=
  ∀ (pins : List (Addr × Obj)) (s : Shared) (σ : St) (H : Hp) (x : V) (xs : List V) (v : Value) (us : List Value) (Q : VK), Inv X pins σ H s → RelV x v → Vals xs us → r x xs H Q →
    wpAny (model X.prog X.w) X.A (call (.builtin id) (v :: us)) (EP X pins σ Q) X.xe s
section
variable {X : Cx} {a b : Expr} {ta tb : TE} {pos : Pos}
theorem IxR.or {r r' : R2} (h : IxR X r) (h' : IxR X r') : IxR X (fun x y H Q => r x y H Q ∨ r' x y H Q) := by
  intro value slice pins s σ H x y v u Q I rx ry q hs
  rcases q with q | q
  · exact h value slice pins s σ H x y v u Q I rx ry q hs
  · exact h' value slice pins s σ H x y v u Q I rx ry q hs
theorem MtR.or {id : String} {r r' : V → List V → Hp → VK → Prop} (h : MtR X id r) (h' : MtR X id r') : MtR X id (fun x xs H Q => r x xs H Q ∨ r' x xs H Q) := by
  intro pins s σ H x xs v us Q I rx rs q
  rcases q with q | q
  · exact h pins s σ H x xs v us Q I rx rs q
  · exact h' pins s σ H x xs v us Q I rx rs q
/-- a[b] -/
theorem pe_ix {r : R2} (hr : IxR X r) (ha : PE X a ta) (hb : PE X b tb) (hs : PlainIx b) : PE X (.Subscript a b pos) (tOp r ta tb) := by
  intro pins s σ H Q I h
  exact Subscript_ (binT ha hb I h fun v u s2 x y H2 I2 rx ry q => hr a b pins s2 σ H2 x y v u Q I2 rx ry q (hs _ _))

def rIxL (K : PySem.W.Frag) : R2 := fun x y H Q => ∃ p xs i v, x = .ref p ∧ y = .int i ∧ SqL K H p xs ∧ atI xs i = some v ∧ Q v H
def rIxT (K : PySem.W.Frag) : R2 := fun x y H Q => ∃ p xs i v, x = .ref p ∧ y = .int i ∧ SqT K H p xs ∧ atI xs i = some v ∧ Q v H
def rIxS : R2 := fun x y H Q => ∃ z i c, x = .str z ∧ y = .int i ∧ z.length ≤ sizeLine ∧ atI z.cps.toList i = some c ∧ Q (.str ⟨#[c]⟩) H
theorem ix_list : IxR X (rIxL X.K) := by
  intro value slice pins s σ H x y v u Q I rx ry h hs
  obtain ⟨p, xs, i, z, rfl, rfl, hq, he, q⟩ := h
  cases rx
  obtain ⟨t, rfl⟩ := ry
  obtain ⟨its, r, pl, hz⟩ := I.list hq
  obtain ⟨j, h1, h2, h3, h4, h5⟩ := atI_get he
  obtain ⟨w, ew, rw'⟩ := r.get h2
  have hl := r.length
  have hn := line63
  have fin : EP X pins σ Q w s := ⟨z, H, I, rw', q⟩
  by_cases h0 : 0 ≤ i
  · have hj : i.toNat = j := by
      rw [seqIndex_of h0 h5] at h1
      exact Option.some.inj h1
    exact item_listR pl.isList h0 (by omega) (by rw [hj]; simpa using ew) fin hs
  · have hj : (i + (its.toArray.size : Int)).toNat = j := by
      rw [seqIndex_neg (by omega) h4] at h1
      rw [List.size_toArray, ← hl]
      exact Option.some.inj h1
    exact subscriptTail_builtinR (x := w) pl.isList.typeIs slot_list_getitem.lookup
      (wpAny_getItem_list_neg (Q := fun r s' => r = w ∧ EP X pins σ Q r s') pl.isList (by omega) (by rw [List.size_toArray] <;> omega) (by omega) (by rw [hj]; simpa using ew) ⟨rfl, fin⟩) hs
theorem ix_str : IxR X rIxS := by
  intro value slice pins s σ H x y v u Q I rx ry h hs
  obtain ⟨z, i, c, rfl, rfl, hz, he, q⟩ := h
  obtain ⟨t, rfl⟩ := rx
  obtain ⟨t', rfl⟩ := ry
  obtain ⟨j, h1, h2, h3, h4, h5⟩ := atI_get he
  have hl : z.cps.toList.length = z.length := by simp [Str.length]
  rw [hl] at h1 h4 h5
  have hn := line63
  exact tail_any (typeIs_str s z t) slot_str_getitem.lookup (getItem_str (c := c) (by
    have e1 : decide (i < -(2 ^ 63 : Int)) = false := decide_eq_false (by omega)
    have e2 : decide (i ≥ 2 ^ 63) = false := decide_eq_false (by omega)
    rw [e1, e2, Bool.or_false]) (by rw [h1]; simpa using h2) ⟨.str ⟨#[c]⟩, H, I.tok _, ⟨_, rfl⟩, q⟩) hs
/-- list, tuple or str -/
def rIx (K : PySem.W.Frag) : R2 := fun x y H Q => rIxL K x y H Q ∨ rIxT K x y H Q ∨ rIxS x y H Q

/-! ### xs[i] = v, any sign -/
theorem Inv.lst {pins : List (Addr × Obj)} {σ : St} {H : Hp} {s : Shared} {p : Addr} {xs : List V} (I : Inv X pins σ H s) (h : H p = some (.lst xs)) :
    ∃ (its : List Value) (n : Nat), Vals xs its ∧ s.heap.get? p = some { cls := .type "list", data := .seq its.toArray n } ∧ xs.length ≤ sizeLine := by
  obtain ⟨z, its, n, r, e⟩ := I.hok p _ h
  exact ⟨its, n, r, e, z⟩
def rSetL : V → V → V → Hp → (Hp → Prop) → Prop := fun o i v H Q => ∃ p xs k j, o = .ref p ∧ i = .int k ∧ H p = some (.lst xs) ∧ ixN xs.length k = some j ∧ Q (upd H p (.lst (xs.set j v)))

/-! ### slices -/
theorem slice_bounds (lo hi : Option Int) (n : Nat) : (sliceBounds lo hi none n).1 = ((HT.sIx n 0 lo : Nat) : Int) ∧ (sliceBounds lo hi none n).2.1 = ((HT.sIx n n hi : Nat) : Int) ∧ (sliceBounds lo hi none n).2.2 = 1 := by
  refine ⟨?_, ?_, rfl⟩
  · cases lo with
    | none => simp [sliceBounds, HT.sIx]
    | some i =>
      simp only [sliceBounds, HT.sIx, Option.getD_none, show (1 : Int) > 0 by decide, if_true]
      by_cases h : i < 0
      · simp only [h, if_true] <;> omega
      · simp only [h, if_false] <;> omega
  · cases hi with
    | none => simp [sliceBounds, HT.sIx]
    | some i =>
      simp only [sliceBounds, HT.sIx, Option.getD_none, show (1 : Int) > 0 by decide, if_true]
      by_cases h : i < 0
      · simp only [h, if_true] <;> omega
      · simp only [h, if_false] <;> omega
theorem slicePick_cut (its : List Value) (lo hi : Option Int) : slicePick its.toArray lo hi none = ((its.drop (HT.sIx its.length 0 lo)).take (HT.sIx its.length its.length hi - HT.sIx its.length 0 lo)).toArray := by
  obtain ⟨h1, h2, h3⟩ := slice_bounds lo hi its.toArray.size
  unfold slicePick
  rw [h1, h2, h3]
  simp only [sliceRange_one, pick_run, List.size_toArray] <;> rfl
/-- xs[lo:hi] of a list: a new list -/
def rSlL (K : PySem.W.Frag) : V → Option Int → Option Int → Hp → VK → Prop := fun x lo hi H Q => ∃ a xs, x = .ref a ∧ SqL K H a xs ∧ ∀ p, H p = none → Q (.ref p) (upd H p (.lst (cutV xs lo hi)))
theorem sl_list : SlR X (rSlL X.K) := by
  intro pins s σ H x v vl vu lo hi sl Q I rx hs pl pu h
  obtain ⟨a, xs, rfl, hx, q⟩ := h
  cases rx
  obtain ⟨its, r, ht, hz⟩ := I.list hx
  have hlen := r.length
  refine ⟨"list", _, slot_list_getitem.lookup, ht.isList.typeIs, ?_⟩
  refine wpAny_getItem_list_slice ht.isList hs pl pu .none (by simp) ?_ (by rw [List.size_toArray] <;> omega)
  rw [slicePick_cut, ← hlen]
  refine ⟨.ref s.heap.objs.size, _, I.laid (t' := s.toks) (o := .lst (cutV xs lo hi)) (fun b ob q => Heap.get?_push_of_some _ q) (Nat.le_refl _) ?_, rfl, q _ (I.hok.fresh (Nat.le_refl _))⟩
  exact ⟨Nat.le_trans (cutV_length xs lo hi) hz, _, 0, (r.drop (HT.sIx xs.length 0 lo)).take (HT.sIx xs.length xs.length hi - HT.sIx xs.length 0 lo), Heap.get?_push_size _ rfl⟩

/-! ### in, not in: flat items -/
def flatV : V → Bool
  | .non => true
  | .bl _ => true
  | .int _ => true
  | .str _ => true
  | _ => false
/-- == of flat values -/
def eqV : V → V → Bool
  | .non, .non => true
  | .bl a, .bl b => a == b
  | .bl a, .int b => (if a then 1 else 0) == b
  | .int a, .bl b => a == (if b then 1 else 0)
  | .int a, .int b => a == b
  | .str a, .str b => a == b
  | _, _ => false
theorem eqAt_V {A : Around} {s : Shared} {y x : V} {u v : Value} (ry : RelV y u) (rx : RelV x v) (fy : flatV y = true) (fx : flatV x = true) : SeqAt.EqAt A s u v (eqV y x) := by
  cases y with
  | non =>
    cases ry
    cases x with
    | non => cases rx; exact SeqAt.EqAt.same _
    | bl b => cases rx; exact SeqAt.EqAt.none_bool b
    | int b => obtain ⟨t, rfl⟩ := rx; exact SeqAt.EqAt.none_int b t
    | str b => obtain ⟨t, rfl⟩ := rx; exact SeqAt.EqAt.none_str b t
    | _ => exact absurd (show false = true from fx) Bool.false_ne_true
  | bl a =>
    cases ry
    cases x with
    | non => cases rx; exact SeqAt.EqAt.bool_none a
    | bl b => cases rx; exact SeqAt.EqAt.bool_bool a b
    | int b => obtain ⟨t, rfl⟩ := rx; exact SeqAt.EqAt.bool_int a b t
    | str b => obtain ⟨t, rfl⟩ := rx; exact SeqAt.EqAt.bool_str a b t
    | _ => exact absurd (show false = true from fx) Bool.false_ne_true
  | int a =>
    obtain ⟨t', rfl⟩ := ry
    cases x with
    | non => cases rx; exact SeqAt.EqAt.int_none a t'
    | bl b => cases rx; exact SeqAt.EqAt.int_bool a t' b
    | int b => obtain ⟨t, rfl⟩ := rx; exact SeqAt.EqAt.int_int a t' b t
    | str b => obtain ⟨t, rfl⟩ := rx; exact SeqAt.EqAt.int_str a t' b t
    | _ => exact absurd (show false = true from fx) Bool.false_ne_true
  | str a =>
    obtain ⟨t', rfl⟩ := ry
    cases x with
    | non => cases rx; exact SeqAt.EqAt.str_none a t'
    | bl b => cases rx; exact SeqAt.EqAt.str_bool a t' b
    | int b => obtain ⟨t, rfl⟩ := rx; exact SeqAt.EqAt.str_int a t' b t
    | str b => obtain ⟨t, rfl⟩ := rx; exact SeqAt.EqAt.str_str a t' b t
    | _ => exact absurd (show false = true from fx) Bool.false_ne_true
  | _ => exact absurd (show false = true from fy) Bool.false_ne_true
/-- the items' answers, read off the values (a value's own answer does not lean on its token) -/
def eqU (x : V) (u : Value) : Bool := match u with
  | .none => eqV .non x
  | .bool b => eqV (.bl b) x
  | .int i _ => eqV (.int i) x
  | .str z _ => eqV (.str z) x
  | _ => false
def inV (x : V) (xs : List V) : Bool := xs.any fun y => eqV y x
/-- x in a list or tuple of flat items -/
def rIn (K : PySem.W.Frag) (neg : Bool) : R2 := fun x y H Q => ∃ p xs, y = .ref p ∧ (SqL K H p xs ∨ SqT K H p xs) ∧ flatV x = true ∧ xs.all flatV = true ∧ Q (.bl (if neg then !inV x xs else inV x xs)) H

/-! ### len, list(x), tuple(x) of any list or tuple that is read -/
theorem CallR.or {f : Value} {r r' : List V → Hp → VK → Prop} (h : CallR X f r) (h' : CallR X f r') : CallR X f (fun xs H Q => r xs H Q ∨ r' xs H Q) := by
  intro pins s σ H xs us Q I rs q
  rcases q with q | q
  · exact h pins s σ H xs us Q I rs q
  · exact h' pins s σ H xs us Q I rs q
theorem call_list_of : CallR X (.type "list") (fun xs H Q => ∃ p ys, xs = [.ref p] ∧ (SqL X.K H p ys ∨ SqT X.K H p ys) ∧ ∀ l, H l = none → Q (.ref l) (upd H l (.lst ys))) := by
  intro pins s σ H xs us Q I r h
  obtain ⟨p, ys, rfl, hq, q⟩ := h
  obtain ⟨u, rfl, rx⟩ := vals1 r
  cases rx
  have fin : ∀ (its : List Value), Vals ys its → ys.length ≤ sizeLine → ∀ (h' : Heap) (c' : Nat), (∀ b o', s.heap.get? b = some o' → h'.get? b = some o') →
      h'.get? s.heap.objs.size = some { cls := .type "list", dict := none, data := .seq its.toArray c', slots := #[] } → EP X pins σ Q (.ref s.heap.objs.size) { s with heap := h' } := fun its r' hz h' c' kp e =>
    ⟨.ref s.heap.objs.size, _, I.laid (t' := s.toks) kp (Nat.le_refl _) (show ObjOk X.prog X.w _ h' _ (.lst ys) from ⟨hz, its, c', r', e⟩), rfl, q _ (I.hok.fresh (Nat.le_refl _))⟩
  rcases hq with hq | hq
  · obtain ⟨its, r', pl, hz⟩ := I.list hq
    have hlen := r'.length
    obtain ⟨o, ho, hc, n, hd⟩ := pl.isList
    exact call_list_seq p (.inl rfl) ho hc hd (fun h' c' kp e => fin its r' hz h' c' kp e) (by simp only [List.size_toArray] <;> omega)
  · obtain ⟨its, r', pl, hz⟩ := I.tuple hq
    have hlen := r'.length
    obtain ⟨o, ho, hc, n, hd⟩ := pl
    exact call_list_seq p (.inr rfl) ho hc hd (fun h' c' kp e => fin its r' hz h' c' kp e) (by simp only [List.size_toArray] <;> omega)

/-! ### the call of a builtin's method: o.m(..) -/
/-- the value is of that builtin type -/
def tyV (K : PySem.W.Frag) (T : String) (x : V) (H : Hp) : Prop := match x with
  | .str _ => T = "str"
  | .int _ => T = "int"
  | .ref p => (T = "list" ∧ ∃ xs, SqL K H p xs) ∨ (T = "tuple" ∧ ∃ o, K.lookup p = some o ∧ o.cls = .type "tuple" ∧ o.dict = none) ∨
      (T = "dict" ∧ ((∃ kvs, H p = some (.dK kvs)) ∨ ∃ kvs, H p = some (.dT kvs))) ∨ (T = "set" ∧ ∃ S n, H p = some (.set S n))
  | _ => False
theorem tyV_is {pins : List (Addr × Obj)} {σ : St} {H : Hp} {s : Shared} {T : String} {x : V} {v : Value} (I : Inv X pins σ H s) (r : RelV x v) (ty : tyV X.K T x H) :
    s.TypeIs v T ∧ ∀ a, v = .ref a → ∃ ob, s.heap.get? a = some ob ∧ ob.dict = none := by
  cases x with
  | str z =>
    obtain ⟨t, rfl⟩ := r
    cases (show T = "str" from ty)
    exact ⟨typeIs_str s z t, fun _ e => nomatch e⟩
  | int i =>
    obtain ⟨t, rfl⟩ := r
    cases (show T = "int" from ty)
    exact ⟨typeIs_int s i t, fun _ e => nomatch e⟩
  | ref p =>
    cases r
    rcases ty with ⟨rfl, xs, hq⟩ | ⟨rfl, o, hk, hc, hd⟩ | ⟨rfl, hk⟩ | ⟨rfl, S, n, hk⟩
    · obtain ⟨its, _, pl, _⟩ := I.list hq
      refine ⟨pl.isList.typeIs, fun a e => ?_⟩
      cases e
      obtain ⟨o, n, e, c, hd, _⟩ := pl
      exact ⟨o, e, hd⟩
    · refine ⟨⟨o, I.kIn p o hk, hc⟩, fun a e => ?_⟩
      cases e
      exact ⟨o, I.kIn _ o hk, hd⟩
    · have z : ∃ o, s.heap.get? p = some o ∧ o.ExactDict := by
        rcases hk with ⟨kvs, hk⟩ | ⟨kvs, hk⟩
        · obtain ⟨_, _, _, _, o, _, _, e, ex, _⟩ := I.hok p _ hk
          exact ⟨o, e, ex⟩
        · obtain ⟨_, _, _, _, o, _, _, e, ex, _⟩ := I.hok p _ hk
          exact ⟨o, e, ex⟩
      obtain ⟨o, e, ex⟩ := z
      refine ⟨⟨o, e, ex.1⟩, fun a e2 => ?_⟩
      cases e2
      exact ⟨o, e, ex.2.1⟩
    · obtain ⟨o, _, _, _, e, ex, _⟩ := I.hok p _ hk
      refine ⟨⟨o, e, ex.1⟩, fun a e2 => ?_⟩
      cases e2
      exact ⟨o, e, ex.2.1⟩
  | _ => exact False.elim ty
def tBM0 (K : PySem.W.Frag) (T : String) (r : V → List V → Hp → VK → Prop) (to : TE) : TE := fun σ H Q => to σ H fun x H1 => tyV K T x H1 ∧ r x [] H1 Q
def tBM (K : PySem.W.Frag) (T : String) (r : V → List V → Hp → VK → Prop) (to : TE) (t : TA) : TE := fun σ H Q => to σ H fun x H1 => tyV K T x H1 ∧ t σ H1 fun xs H2 => r x xs H2 Q
variable {o e : Expr} {es : List Expr} {to : TE} {t : TA} {name : Str} {apos cpos : Pos} {T id : String} {r : V → List V → Hp → VK → Prop}
theorem pe_bm0 (pa : PlainAttrs T) (slot : Slot T name id) (hty : typeOf (.builtin id) = pure (.type "method_descriptor")) (hm : MtR X id r) (ho : PE X o to)
    (hbase : attributeBase o name X.env (eval o X.env) = eval o X.env := by rfl) (hline : (apos.endLine == cpos.line) = true := by rfl) : PE X (.Call (.Attribute o name apos) [] [] cpos) (tBM0 X.K T r to) := by
  intro pins s σ H Q I h
  refine wpAny_Call_method0_late hbase hline (thn (ho pins s σ H _ I h) fun v s1 ⟨x, H1, I1, r1, ty, q1⟩ => ?_)
  obtain ⟨h1, h2⟩ := tyV_is I1 r1 ty
  exact ⟨T, id, pa, slot, hty, h1, h2, Calls.callWith_builtin rfl (PySem.evalArgs_none (hm pins s1 σ H1 x [] v [] Q I1 r1 .nil q1))⟩
theorem pe_bm (pa : PlainAttrs T) (slot : Slot T name id) (hty : typeOf (.builtin id) = pure (.type "method_descriptor")) (hm : MtR X id r) (ho : PE X o to) (ha : PA X (e :: es) t)
    (hbase : attributeBase o name X.env (eval o X.env) = eval o X.env := by rfl)
    (hfew : ((backTo cpos (starEach (e :: es) X.env)).all (fun x => !x.1) && (backToKw cpos (keywordEach [] X.env)).all (fun x => x.1.isSome)
      && decide ((e :: es).length + ([] : List Keyword).length + (if ([] : List Keyword).isEmpty then 0 else 1) < 30)) = true := by rfl)
    (hline : (apos.endLine == cpos.line) = true := by rfl) (hs : starEach (e :: es) X.env = (false, eval e X.env) :: starEach es X.env := by rfl) (hplain : (backTo cpos (starEach es X.env)).any (·.1) = false := by rfl) :
    PE X (.Call (.Attribute o name apos) (e :: es) [] cpos) (tBM X.K T r to t) := by
  intro pins s σ H Q I h
  refine wpAny_Call_method_late hbase hfew hline rfl (thn (ho pins s σ H _ I h) fun v s1 ⟨x, H1, I1, r1, ty, q1⟩ => ?_)
  obtain ⟨h1, h2⟩ := tyV_is I1 r1 ty
  refine ⟨T, id, pa, slot, hty, h1, h2, ?_⟩
  have hA := ha cpos pins s1 σ H1 _ I1 q1
  rw [hs] at hA ⊢
  refine Calls.callWith_builtin (by show (false || (backTo cpos (starEach es X.env)).any (·.1)) = false; rw [hplain] <;> rfl) (Calls.evalArgs_plain ?_)
  exact thn hA fun us s2 ⟨vs, H2, I2, r2, q2⟩ => hm pins s2 σ H2 x vs v us Q I2 r1 r2 q2
/- xs.append(e), list.index on a module's tuple .. are MtR facts of 06m -/
end
end L2

namespace L2
open PySem PySem.Spec PyProof.Rows

def MtM (X : Cx) (id : String) (r : V → List V → Hp → VK → Prop) : Prop :=
  ∀ (pins : List (Addr × Obj)) (s : Shared) (σ : St) (H : Hp) (x : V) (xs : List V) (v : Value) (us : List Value) (Q : VK), Inv X pins σ H s → RelV x v → Vals xs us → r x xs H Q →
    wpAny (model X.prog X.w) X.A (call (.builtin id) (v :: us)) (EP X pins σ Q) X.xe s

/-! ### lists of values -/
theorem Vals.one : ∀ {x : V} {us : List Value}, Vals [x] us → ∃ u, us = [u] ∧ RelV x u
  | _, _, .cons r .nil => ⟨_, rfl, r⟩
theorem Vals.two : ∀ {x y : V} {us : List Value}, Vals [x, y] us → ∃ u v, us = [u, v] ∧ RelV x u ∧ RelV y v
  | _, _, _, .cons r (.cons q .nil) => ⟨_, _, rfl, r, q⟩
theorem Vals.zero : ∀ {us : List Value}, Vals [] us → us = []
  | _, .nil => rfl
theorem Vals.dropLast {xs : List V} {us : List Value} (h : Vals xs us) : Vals xs.dropLast us.dropLast := by
  induction h with
  | nil => exact .nil
  | cons r t ih =>
    cases t with
    | nil => exact .nil
    | cons q t' => exact .cons r ih
theorem Vals.eraseIdx : ∀ {xs : List V} {us : List Value} (i : Nat), Vals xs us → Vals (xs.eraseIdx i) (us.eraseIdx i)
  | _, _, _, .nil => .nil
  | _, _, 0, .cons _ t => t
  | _, _, i + 1, .cons r t => .cons r (Vals.eraseIdx i t)
theorem Vals.reverse {xs : List V} {us : List Value} (h : Vals xs us) : Vals xs.reverse us.reverse := by
  induction h with
  | nil => exact .nil
  | cons r t ih => rw [List.reverse_cons, List.reverse_cons]; exact Vals.append ih (.cons r .nil)
theorem Vals.rep {xs : List V} {us : List Value} (h : Vals xs us) : ∀ k : Nat, Vals (List.replicate k xs).flatten (List.replicate k us).flatten
  | 0 => .nil
  | k + 1 => by
    rw [List.replicate_succ, List.replicate_succ, List.flatten_cons, List.flatten_cons]
    exact Vals.append h (Vals.rep h k)
theorem erase_last {α : Type} (l : List α) : l.eraseIdx (l.length - 1) = l.dropLast := by
  induction l with
  | nil => rfl
  | cons a r ih =>
    cases r with
    | nil => rfl
    | cons b r =>
      have e : (a :: b :: r).length - 1 = ((b :: r).length - 1) + 1 := by
        have h1 : (a :: b :: r).length = r.length + 2 := rfl
        have h2 : (b :: r).length = r.length + 1 := rfl
        omega
      rw [e, List.eraseIdx_cons_succ, ih]
      all_goals rfl

section
variable {X : Cx} {pins : List (Addr × Obj)} {σ : St} {H : Hp} {s : Shared} {l b : Addr} {xs ys zs : List V}

/-! ### the two steps: a tracked list is rewritten, a new list is laid -/
theorem Inv.lset {its its' : List Value} {n : Nat} {f : Array Value → Array Value} {t' : Nat} (I : Inv X pins σ H s) (hH : H l = some (.lst xs))
    (e : s.heap.get? l = some { cls := .type "list", data := .seq its.toArray n }) (hf : f its.toArray = its'.toArray) (hv : Vals ys its') (hz : ys.length ≤ sizeLine) :
    Inv X pins σ (upd H l (.lst ys)) { s with heap := s.heap.update l (Obj.mapSeq f), toks := t' } := by
  have q := PySem.IsL.update e f
  rw [hf] at q
  refine I.write (x := l) (e := l) (by rw [hH]; exact trivial) (.inl rfl) (fun b' u hb hu => (Heap.get?_update_other s.heap (Obj.mapSeq f) (Ne.symm hb)).trans hu) ⟨_, q⟩ ?_
  exact ⟨hz, its', _, hv, q⟩
theorem Inv.lnew {its : List Value} {t' : Nat} (I : Inv X pins σ H s) (hv : Vals ys its) (hz : ys.length ≤ sizeLine) :
    Inv X pins σ (upd H s.heap.objs.size (.lst ys)) { s with heap := s.heap.push { cls := .type "list", data := .seq its.toArray }, toks := t' } :=
  I.laid (fun _ _ q => Heap.get?_push_of_some _ q) (Nat.le_refl _) ⟨hz, its, 0, hv, Heap.get?_push_size _ rfl⟩
theorem Inv.fresh (I : Inv X pins σ H s) : H s.heap.objs.size = none := I.hok.fresh (Nat.le_refl _)
theorem Inv.lstM (I : Inv X pins σ H s) (hH : H l = some (.lst xs)) : xs.length ≤ sizeLine ∧ ∃ (its : List Value) (n : Nat), Vals xs its ∧ xs.length = its.length ∧ s.heap.get? l = some { cls := .type "list", data := .seq its.toArray n } := by
  obtain ⟨z, its, n, r, e⟩ := I.hok l _ hH
  exact ⟨z, its, n, r, r.length, e⟩

theorem notLongL {n : Nat} (h : n ≤ sizeLine) : Builtin.List.listTooLong n = false := by
  unfold Builtin.List.listTooLong
  exact decide_eq_false (by omega)
end

section
variable {X : Cx}

/-! ### methods -/
def rAppend : V → List V → Hp → VK → Prop := fun x vs H Q => ∃ l xs y, x = .ref l ∧ vs = [y] ∧ H l = some (.lst xs) ∧ xs.length < sizeLine ∧ Q .non (upd H l (.lst (xs ++ [y])))
theorem mt_append : MtM X "list.append" rAppend := by
  intro pins s σ H x vs v us Q I rx rv h
  obtain ⟨l, xs, y, rfl, rfl, hH, hz, q⟩ := h
  cases rx
  obtain ⟨u, rfl, ru⟩ := rv.one
  obtain ⟨z, its, n, r, hl, e⟩ := I.lstM hH
  refine call_meets F.slot_list_append ⟨_, e, rfl⟩ F.entry_list_append (F.args_list_append_2 _ _) (PySem.list_append l its.toArray n u (by rw [List.size_toArray]; omega)) ⟨e, ?_⟩
  refine ⟨.non, _, I.lset (its' := its ++ [u]) hH e (by simp) (r.append (.cons ru .nil)) ?_, rfl, q⟩
  rw [List.length_append, List.length_singleton]
  omega

def rExtend : V → List V → Hp → VK → Prop := fun x vs H Q => ∃ l b xs zs, x = .ref l ∧ vs = [.ref b] ∧ H l = some (.lst xs) ∧ H b = some (.lst zs) ∧ xs.length + zs.length ≤ sizeLine ∧ Q .non (upd H l (.lst (xs ++ zs)))
theorem mt_extend : MtM X "list.extend" rExtend := by
  intro pins s σ H x vs v us Q I rx rv h
  obtain ⟨l, b, xs, zs, rfl, rfl, hH, hB, hz, q⟩ := h
  cases rx
  obtain ⟨u, rfl, ru⟩ := rv.one
  cases ru
  obtain ⟨z, its, n, r, hl, e⟩ := I.lstM hH
  obtain ⟨z2, its2, n2, r2, hl2, e2⟩ := I.lstM hB
  have hsz : its.toArray.size + its2.toArray.size ≤ sizeLine := by rw [List.size_toArray, List.size_toArray]; omega
  have hlong : ¬ (!its.toArray.isEmpty && Builtin.List.listTooLong (its.toArray.size + its2.toArray.size)) = true := by
    rw [notLongL hsz, Bool.and_false]
    exact Bool.false_ne_true
  refine call_meets F.slot_list_extend ⟨_, e, rfl⟩ F.entry_list_extend (F.args_list_extend_2 _ _)
    (AutoSeq1.list_extend_list_list_0 l its.toArray n b its2.toArray n2 hlong (by rw [List.size_toArray]; omega) (by omega)) ⟨e, e2, ?_⟩
  refine ⟨.non, _, I.lset (its' := its ++ its2) hH e (by simp) (r.append r2) ?_, rfl, q⟩
  rw [List.length_append]
  omega

def rPop : V → List V → Hp → VK → Prop := fun x vs H Q => ∃ l xs y, x = .ref l ∧ vs = [] ∧ H l = some (.lst xs) ∧ xs[xs.length - 1]? = some y ∧ Q y (upd H l (.lst xs.dropLast))
theorem mt_pop : MtM X "list.pop" rPop := by
  intro pins s σ H x vs v us Q I rx rv h
  obtain ⟨l, xs, y, rfl, rfl, hH, hy, q⟩ := h
  cases rx
  have hus := rv.zero
  subst hus
  obtain ⟨z, its, n, r, hl, e⟩ := I.lstM hH
  obtain ⟨u, hu, ru⟩ := r.get hy
  have hy' : its.toArray[its.toArray.size - 1]? = some u := by
    show its.toArray[its.length - 1]? = some u
    rw [← Array.getElem?_toList, ← hl]
    exact hu
  refine call_meets F.slot_list_pop ⟨_, e, rfl⟩ F.entry_list_pop (F.args_list_pop_1 _) (MeetsSeq.list_pop_last l its.toArray n u hy' (by rw [List.size_toArray]; omega)) ⟨e, ?_⟩
  refine ⟨y, _, I.lset (its' := its.dropLast) hH e ?_ r.dropLast ?_, ru, q⟩
  · show its.toArray.eraseIdxIfInBounds (its.toArray.size - 1) = its.dropLast.toArray
    rw [List.size_toArray, List.eraseIdxIfInBounds_toArray, erase_last]
  · rw [List.length_dropLast]
    omega

def rPopAt : V → List V → Hp → VK → Prop := fun x vs H Q => ∃ l xs i k y, x = .ref l ∧ vs = [.int i] ∧ H l = some (.lst xs) ∧ -(2 ^ 63) ≤ i ∧ i < 2 ^ 63 ∧ seqIndex? i xs.length = some k ∧ xs[k]? = some y ∧ Q y (upd H l (.lst (xs.eraseIdx k)))

def rReverse : V → List V → Hp → VK → Prop := fun x vs H Q => ∃ l xs, x = .ref l ∧ vs = [] ∧ H l = some (.lst xs) ∧ Q .non (upd H l (.lst xs.reverse))

def rClear : V → List V → Hp → VK → Prop := fun x vs H Q => ∃ l xs, x = .ref l ∧ vs = [] ∧ H l = some (.lst xs) ∧ Q .non (upd H l (.lst []))
theorem mt_clear : MtM X "list.clear" rClear := by
  intro pins s σ H x vs v us Q I rx rv h
  obtain ⟨l, xs, rfl, rfl, hH, q⟩ := h
  cases rx
  have hus := rv.zero
  subst hus
  obtain ⟨z, its, n, r, hl, e⟩ := I.lstM hH
  refine call_meets F.slot_list_clear ⟨_, e, rfl⟩ F.entry_list_clear (F.args_list_clear_1 _) (AutoSeq1.list_clear_list_0 l its.toArray n (by rw [List.size_toArray]; omega)) ⟨e, ?_⟩
  exact ⟨.non, _, I.lset (its' := []) (ys := []) hH e rfl .nil (Nat.zero_le _), rfl, q⟩

/-! ### list + list, list += list, list * int -/
def rCat : R2 := fun x y H Q => ∃ l b xs zs, x = .ref l ∧ y = .ref b ∧ H l = some (.lst xs) ∧ H b = some (.lst zs) ∧ xs.length + zs.length ≤ sizeLine ∧ ∀ p, H p = none → Q (.ref p) (upd H p (.lst (xs ++ zs)))
theorem op_cat : OpR X (binaryOp .Add) rCat := by
  intro pins s σ H x y v u Q I rx ry h
  obtain ⟨l, b, xs, zs, rfl, rfl, hH, hB, hz, q⟩ := h
  cases rx
  cases ry
  obtain ⟨z, its, n, r, hl, e⟩ := I.lstM hH
  obtain ⟨z2, its2, n2, r2, hl2, e2⟩ := I.lstM hB
  refine PySem.P.add_list e e2 ?_ (by rw [List.size_toArray, List.size_toArray]; omega)
  have ea : its.toArray ++ its2.toArray = (its ++ its2).toArray := by simp
  rw [ea]
  exact ⟨.ref _, _, I.lnew (t' := s.toks) (r.append r2) (by rw [List.length_append]; omega), rfl, q _ I.fresh⟩
/-- a list times an int (a negative one is nothing) -/
def rRep : R2 := fun x y H Q => ∃ l k xs, x = .ref l ∧ y = .int k ∧ H l = some (.lst xs) ∧ -(2 ^ 63) ≤ k ∧ k < 2 ^ 63 ∧ xs.length * k.toNat ≤ sizeLine ∧
  ∀ p, H p = none → Q (.ref p) (upd H p (.lst (List.replicate k.toNat xs).flatten))

/-! ### del xs[i] -/
end

/-! ### xs[a:b] = ys -/
section
variable {prog : Program} {w : World} {A : Around} {E : Value → Shared → Prop} {s : Shared}
end

section
variable {X : Cx}
end
end L2

namespace L2
open PySem PySem.Spec PyProof.Rows

/-! ### lists of pairs as tables -/
section
variable {κ : Type} [DecidableEq κ]
def valV (kvs : List (κ × V)) (k : κ) : Option V := (kvs.find? fun kv => decide (kv.1 = k)).map (·.2)
/-- in its place, or at the end -/
def putK (kvs : List (κ × V)) (k : κ) (v : V) : List (κ × V) :=
  if (kvs.any fun kv => decide (kv.1 = k)) = true then kvs.map (fun kv => if kv.1 = k then (kv.1, v) else kv) else kvs ++ [(k, v)]
def dropK (kvs : List (κ × V)) (k : κ) : List (κ × V) := kvs.filter fun kv => decide (kv.1 ≠ k)

theorem valV_pos {p : κ × V} {r : List (κ × V)} {k : κ} (e : p.1 = k) : valV (p :: r) k = some p.2 := by simp [valV, List.find?_cons, e]
theorem valV_neg {p : κ × V} {r : List (κ × V)} {k : κ} (e : ¬ p.1 = k) : valV (p :: r) k = valV r k := by simp [valV, List.find?_cons, e]
theorem valV_any (k : κ) : ∀ kvs : List (κ × V), (kvs.any fun kv => decide (kv.1 = k)) = (valV kvs k).isSome
  | [] => rfl
  | p :: r => by
    rw [List.any_cons]
    by_cases e : p.1 = k
    · simp only [valV_pos e, decide_eq_true e, Bool.true_or, Option.isSome_some]
    · rw [valV_neg e, decide_eq_false e, Bool.false_or]; exact valV_any k r
theorem valV_map (k j : κ) (y : V) : ∀ kvs : List (κ × V), valV (kvs.map fun kv => if kv.1 = k then (kv.1, y) else kv) j = (valV kvs j).map fun x => if j = k then y else x
  | [] => rfl
  | p :: r => by
    have ih := valV_map k j y r
    rw [List.map_cons]
    by_cases h : p.1 = k
    · rw [if_pos h]
      by_cases e : p.1 = j
      · rw [valV_pos (p := (p.1, y)) e, valV_pos e, Option.map_some, if_pos (e.symm.trans h)]
      · rw [valV_neg (p := (p.1, y)) e, valV_neg e, ih]
    · rw [if_neg h]
      by_cases e : p.1 = j
      · rw [valV_pos (p := p) e, valV_pos e, Option.map_some, if_neg (fun z => h (e.trans z))]
      · rw [valV_neg (p := p) e, valV_neg e, ih]
theorem valV_snoc (k j : κ) (y : V) : ∀ kvs : List (κ × V), valV kvs k = none → valV (kvs ++ [(k, y)]) j = if j = k then some y else valV kvs j
  | [], _ => by
    by_cases e : k = j
    · rw [if_pos e.symm]; exact valV_pos (p := (k, y)) e
    · rw [if_neg (fun z => e z.symm)]; exact valV_neg (p := (k, y)) e
  | p :: r, hn => by
    rw [List.cons_append]
    have hk : ¬ p.1 = k := fun z => by rw [valV_pos z] at hn; cases hn
    rw [valV_neg hk] at hn
    have ih := valV_snoc k j y r hn
    by_cases e : p.1 = j
    · rw [valV_pos e, valV_pos e, if_neg (fun z => hk (e.trans z))]
    · rw [valV_neg e, valV_neg e, ih]
theorem valV_put (kvs : List (κ × V)) (k j : κ) (y : V) : valV (putK kvs k y) j = if j = k then some y else valV kvs j := by
  unfold putK
  by_cases a : (kvs.any fun kv => decide (kv.1 = k)) = true
  · rw [if_pos a, valV_map]
    rw [valV_any] at a
    by_cases e : j = k
    · obtain ⟨x, hx⟩ := Option.isSome_iff_exists.mp a
      rw [if_pos e, e, hx, Option.map_some, if_pos rfl]
    · rw [if_neg e]
      cases valV kvs j with
      | none => rfl
      | some x => rw [Option.map_some, if_neg e]
  · rw [if_neg a]
    refine valV_snoc k j y kvs ?_
    rw [valV_any] at a
    cases q : valV kvs k with
    | none => rfl
    | some x => rw [q] at a; exact (a rfl).elim
theorem length_putK (kvs : List (κ × V)) (k : κ) (v : V) : (putK kvs k v).length ≤ kvs.length + 1 := by
  unfold putK
  split
  · rw [List.length_map]; omega
  · rw [List.length_append, List.length_cons, List.length_nil]; omega
theorem putK_new {kvs : List (κ × V)} {k : κ} (v : V) (h : valV kvs k = none) : putK kvs k v = kvs ++ [(k, v)] := by
  unfold putK
  rw [valV_any, h]
  exact if_neg (by decide)

theorem RelO.isSome_eq {o : Option V} {u : Option Value} (r : RelO o u) : o.isSome = u.isSome := by
  cases o with
  | none => cases u with
    | none => rfl
    | some _ => exact (show False from r).elim
  | some _ => cases u with
    | none => exact (show False from r).elim
    | some _ => rfl
theorem RelO.getD {o : Option V} {u : Option Value} {d : V} {d' : Value} (r : RelO o u) (rd : RelV d d') : RelV (o.getD d) (u.getD d') := by
  cases o with
  | none => cases u with
    | none => exact rd
    | some _ => exact (show False from r).elim
  | some _ => cases u with
    | none => exact (show False from r).elim
    | some _ => exact r

/-- raw tables of the same keys -/
theorem KV.val {kvs : List (κ × V)} {vs : List (κ × Value)} (r : KV kvs vs) (k : κ) : RelO (valV kvs k) (valueAt vs k) := by
  unfold KV at r
  induction r with
  | nil => exact True.intro
  | @cons p q ps qs h t ih =>
    obtain ⟨h1, h2⟩ := h
    by_cases e : p.1 = k
    · have e' : q.1 = k := h1.symm.trans e
      have b : valueAt (q :: qs) k = some q.2 := by simp [valueAt, List.find?_cons, e']
      rw [valV_pos e, b]; exact h2
    · have e' : ¬ q.1 = k := fun z => e (h1.trans z)
      have b : valueAt (q :: qs) k = valueAt qs k := by simp [valueAt, List.find?_cons, e']
      rw [valV_neg e, b]; exact ih
theorem KV.any {kvs : List (κ × V)} {vs : List (κ × Value)} (r : KV kvs vs) (k : κ) : (kvs.any fun kv => decide (kv.1 = k)) = vs.any fun kv => decide (kv.1 = k) := by
  unfold KV at r
  induction r with
  | nil => rfl
  | cons h t ih => rw [List.any_cons, List.any_cons, ih, h.1]
theorem KV.repl {kvs : List (κ × V)} {vs : List (κ × Value)} (r : KV kvs vs) (k : κ) {y : V} {u : Value} (ry : RelV y u) :
    KV (kvs.map fun kv => if kv.1 = k then (kv.1, y) else kv) (vs.map fun kv => if kv.1 = k then (kv.1, u) else kv) := by
  unfold KV at r ⊢
  induction r with
  | nil => exact .nil
  | @cons p q ps qs h t ih =>
    rw [List.map_cons, List.map_cons]
    refine .cons ?_ ih
    obtain ⟨h1, h2⟩ := h
    by_cases e : p.1 = k
    · rw [if_pos e, if_pos (h1.symm.trans e)]; exact ⟨h1, ry⟩
    · rw [if_neg e, if_neg (fun z => e (h1.trans z))]; exact ⟨h1, h2⟩
theorem KV.put {kvs : List (κ × V)} {vs : List (κ × Value)} (r : KV kvs vs) (k : κ) {y : V} {u : Value} (ry : RelV y u) : KV (putK kvs k y) (stored vs k u) := by
  unfold putK stored
  rw [r.any k]
  by_cases e : (vs.any fun kv => decide (kv.1 = k)) = true
  · rw [if_pos e, if_pos e]; exact r.repl k ry
  · rw [if_neg e, if_neg e]; exact Paired.snoc r ⟨rfl, ry⟩
theorem KV.drop {kvs : List (κ × V)} {vs : List (κ × Value)} (r : KV kvs vs) (k : κ) : KV (dropK kvs k) (without vs k) := by
  unfold KV at r ⊢
  unfold dropK without
  induction r with
  | nil => exact .nil
  | @cons p q ps qs h t ih =>
    obtain ⟨h1, h2⟩ := h
    rw [List.filter_cons, List.filter_cons]
    by_cases e : p.1 = k
    · have a : ¬ decide (p.1 ≠ k) = true := by simp [e]
      have b : ¬ decide (q.1 ≠ k) = true := by simp [h1.symm.trans e]
      rw [if_neg a, if_neg b]; exact ih
    · have e' : ¬ q.1 = k := fun z => e (h1.trans z)
      have a : decide (p.1 ≠ k) = true := by simp [e]
      have b : decide (q.1 ≠ k) = true := by simp [e']
      rw [if_pos a, if_pos b]; exact .cons ⟨h1, h2⟩ ih
theorem KV.keys {kvs : List (κ × V)} {vs : List (κ × Value)} (r : KV kvs vs) : kvs.map (·.1) = vs.map (·.1) := by
  unfold KV at r
  induction r with
  | nil => rfl
  | cons h t ih => rw [List.map_cons, List.map_cons, ih, h.1]
theorem KV.length {kvs : List (κ × V)} {vs : List (κ × Value)} (r : KV kvs vs) : kvs.length = vs.length := Paired.length r
theorem dropK_le (kvs : List (κ × V)) (k : κ) : (dropK kvs k).length ≤ kvs.length := List.length_filter_le _ _
end


/-! ### a tracked dict, its keys ints and texts or tuples of these -/
theorem kV_is {P : Program} {w : World} {k : Key} {u : Value} (r : RelV (kV k) u) : (mixKind P w).is k u = true := by
  cases k with
  | inl i => obtain ⟨t, e⟩ := (show ∃ t, u = Value.int i t from r); subst e; exact mixKind_int P w i t
  | inr x => obtain ⟨t, e⟩ := (show ∃ t, u = Value.str x t from r); subst e; exact mixKind_str P w x t
theorem items_are {P : Program} {w : World} : ∀ {ks : List Key} {us : List Value}, Vals (ks.map kV) us → ItemsAre (mixKind P w) ks us
  | [], _, r => by rw [List.map_nil] at r; cases r; exact .nil
  | k :: ks, _, r => by
    rw [List.map_cons] at r
    cases r with
    | cons h t => exact .cons (kV_is h) (items_are t)

/-- raw entries of a dict with tuple keys -/
abbrev KT (H : Hp) : List (List Key × V) → List (List Key × Addr × Value) → Prop := Paired fun p q => p.1 = q.1 ∧ H q.2.1 = some (.tup (p.1.map kV)) ∧ RelV p.2 q.2.2
theorem KT.val {H : Hp} {kvs : List (List Key × V)} {xs : List (List Key × Addr × Value)} (r : KT H kvs xs) (k : List Key) : RelO (valV kvs k) ((atKey xs k).map (·.2)) := by
  induction r with
  | nil => exact True.intro
  | @cons p q ps qs h t ih =>
    obtain ⟨h1, _, h2⟩ := h
    by_cases e : p.1 = k
    · have e' : q.1 = k := h1.symm.trans e
      have b : atKey (q :: qs) k = some q.2 := by simp [atKey, List.find?_cons, e']
      rw [valV_pos e, b]; exact h2
    · have e' : ¬ q.1 = k := fun z => e (h1.trans z)
      have b : atKey (q :: qs) k = atKey qs k := by simp [atKey, List.find?_cons, e']
      rw [valV_neg e, b]; exact ih
theorem KT.repl {H : Hp} {kvs : List (List Key × V)} {xs : List (List Key × Addr × Value)} (r : KT H kvs xs) (k : List Key) {y : V} {u : Value} (ry : RelV y u) :
    KT H (kvs.map fun kv => if kv.1 = k then (kv.1, y) else kv) (xs.map (putAt k u)) := by
  induction r with
  | nil => exact .nil
  | @cons p q ps qs h t ih =>
    rw [List.map_cons, List.map_cons]
    refine .cons ?_ ih
    obtain ⟨h1, h2, h3⟩ := h
    unfold putAt
    by_cases e : p.1 = k
    · rw [if_pos e, if_pos (h1.symm.trans e)]; exact ⟨h1, h2, ry⟩
    · rw [if_neg e, if_neg (fun z => e (h1.trans z))]; exact ⟨h1, h2, h3⟩
theorem KT.put {H : Hp} {kvs : List (List Key × V)} {xs : List (List Key × Addr × Value)} (r : KT H kvs xs) (k : List Key) {b : Addr} {y : V} {u : Value} (hb : H b = some (.tup (k.map kV))) (ry : RelV y u) :
    KT H (putK kvs k y) (storedH xs k b u) := by
  have e : (kvs.any fun kv => decide (kv.1 = k)) = (atKey xs k).isSome := by
    rw [valV_any, (r.val k).isSome_eq, Option.isSome_map]
  unfold putK storedH
  rw [e]
  by_cases q : (atKey xs k).isSome = true
  · rw [if_pos q, if_pos q]; exact r.repl k ry
  · rw [if_neg q, if_neg q]; exact Paired.snoc r ⟨rfl, hb, ry⟩
theorem KT.keeps {H H' : Hp} {kvs : List (List Key × V)} {xs : List (List Key × Addr × Value)} (r : KT H kvs xs) (ht : ∀ b ys, H b = some (.tup ys) → H' b = some (.tup ys)) : KT H' kvs xs :=
  Paired.mapP r fun _ _ z => ⟨z.1, ht _ _ z.2.1, z.2.2⟩

section
variable {P : Program} {w : World} {H : Hp} {h : Heap} {a : Addr}
theorem rd_of {u : HO} (ok : HOk P w H h) (e : Rd H a u) : ObjOk P w H h a u := e.ok ok
theorem dk_rd {kvs : List (Key × V)} (ok : HOk P w H h) (e : Rd H a (.dK kvs)) : kvs.length ≤ sizeLine ∧ (a == sysModules) = false ∧ ∃ vs, KV kvs vs ∧ h.DictOf (mixKind P w) a vs :=
  show ObjOk P w H h a (.dK kvs) from rd_of ok e
theorem dk_of {kvs : List (Key × V)} (ok : HOk P w H h) (e : H a = some (.dK kvs)) : kvs.length ≤ sizeLine ∧ (a == sysModules) = false ∧ ∃ vs, KV kvs vs ∧ h.DictOf (mixKind P w) a vs := dk_rd ok (.inl e)
/-- a tracked tuple of ints and texts is a key -/
theorem key_of {ks : List Key} (ok : HOk P w H h) (e : H a = some (.tup (ks.map kV))) : (tupleKind (mixKind P w)).is h ks a := by
  obtain ⟨_, its, r, o, h1, h2, n, h3⟩ := (show ObjOk P w H h a (.tup (ks.map kV)) from ok a _ e)
  exact ⟨o, its.toArray, n, h1, h2, h3, by simpa using items_are r⟩
theorem dt_rd {kvs : List (List Key × V)} (ok : HOk P w H h) (e : Rd H a (.dT kvs)) : kvs.length ≤ sizeLine ∧ (a == sysModules) = false ∧
    ∃ xs, KT H kvs xs ∧ h.DictOfH (tupleKind (mixKind P w)) a xs := by
  obtain ⟨z, y, xs, r, o, es, ep, h1, h2, h3, h4, h5⟩ := (show ObjOk P w H h a (.dT kvs) from rd_of ok e)
  refine ⟨z, y, xs, r, o, es, ep, h1, h2, h3, h4, fun x hx => ?_, h5⟩
  have all : ∀ {l : List (List Key × V)} {m : List (List Key × Addr × Value)}, KT H l m → ∀ x ∈ m, (tupleKind (mixKind P w)).is h x.1 x.2.1 := by
    intro l m q
    induction q with
    | nil => intro x hx; exact nomatch hx
    | @cons p q ps qs hq t ih =>
      intro x hx
      rcases List.mem_cons.mp hx with e | hx
      · subst e
        exact key_of ok (by rw [← hq.1]; exact hq.2.1)
      · exact ih x hx
  exact all r x hx
theorem dt_of {kvs : List (List Key × V)} (ok : HOk P w H h) (e : H a = some (.dT kvs)) : kvs.length ≤ sizeLine ∧ (a == sysModules) = false ∧
    ∃ xs, KT H kvs xs ∧ h.DictOfH (tupleKind (mixKind P w)) a xs := dt_rd ok (.inl e)
end

/-- what the dict at a holds at the key y -/
def DGet (H : Hp) (a : Addr) (y : V) (r : Option V) : Prop :=
  (∃ kvs k, Rd H a (.dK kvs) ∧ y = kV k ∧ r = valV kvs k) ∨ ∃ kvs k b, Rd H a (.dT kvs) ∧ y = .ref b ∧ H b = some (.tup (k.map kV)) ∧ r = valV kvs k
/-- the heap behind a[y] = v -/
def DPut (H : Hp) (a : Addr) (y v : V) (H' : Hp) : Prop :=
  (∃ kvs k, H a = some (.dK kvs) ∧ y = kV k ∧ kvs.length < sizeLine ∧ H' = upd H a (.dK (putK kvs k v))) ∨
  ∃ kvs k b, H a = some (.dT kvs) ∧ y = .ref b ∧ H b = some (.tup (k.map kV)) ∧ kvs.length < sizeLine ∧ H' = upd H a (.dT (putK kvs k v))
theorem DGet.k {H : Hp} {a : Addr} {kvs : List (Key × V)} {k : Key} (e : H a = some (.dK kvs)) : DGet H a (kV k) (valV kvs k) := .inl ⟨kvs, k, .inl e, rfl, rfl⟩
theorem DGet.t {H : Hp} {a b : Addr} {kvs : List (List Key × V)} {k : List Key} (e : H a = some (.dT kvs)) (eb : H b = some (.tup (k.map kV))) : DGet H a (.ref b) (valV kvs k) := .inr ⟨kvs, k, b, .inl e, rfl, eb, rfl⟩
theorem DPut.k {H : Hp} {a : Addr} {kvs : List (Key × V)} {k : Key} {v : V} (e : H a = some (.dK kvs)) (hl : kvs.length < sizeLine) : DPut H a (kV k) v (upd H a (.dK (putK kvs k v))) := .inl ⟨kvs, k, e, rfl, hl, rfl⟩
theorem DPut.t {H : Hp} {a b : Addr} {kvs : List (List Key × V)} {k : List Key} {v : V} (e : H a = some (.dT kvs)) (eb : H b = some (.tup (k.map kV))) (hl : kvs.length < sizeLine) :
    DPut H a (.ref b) v (upd H a (.dT (putK kvs k v))) := .inr ⟨kvs, k, b, e, rfl, eb, hl, rfl⟩


section
variable {X : Cx} {pins : List (Addr × Obj)} {σ : St} {H : Hp} {s : Shared} {a : Addr} {y v : V} {u r : Value} {o : Option V} {A : Around} {E : Value → Shared → Prop}

theorem Inv.big (I : Inv X pins σ H s) : sysModules < s.heap.objs.size := by
  have h : mainGlobals < s.heap.objs.size := (I.mod.glob.keeps I.bk).lt
  exact Nat.lt_trans (by decide) h

/-- d[y], there -/
theorem d_getItem {Q : Value → Shared → Prop} (hu : A.units + 1 < cLine) (I : Inv X pins σ H s) (g : DGet H a y (some v)) (ry : RelV y u) (h : ∀ w' s', Inv X pins σ H s' → RelV v w' → Q w' s') :
    wpAny (model X.prog X.w) A (getItem (.ref a) u) Q E s := by
  rcases g with ⟨kvs, k, e, ey, l⟩ | ⟨kvs, k, b, e, ey, eb, l⟩
  · subst ey
    obtain ⟨z, hd, vs, rel, dd⟩ := dk_rd I.hok e
    obtain ⟨w', hw, rw'⟩ := RelO.some_of (v := v) (o := valueAt vs k) (by rw [l]; exact rel.val k)
    exact wpAny_getItem_of (kV_is ry) dd.mapOf hw (h w' _ (I.tok _) rw')
  · subst ey
    cases (show u = Value.ref b from ry)
    obtain ⟨z, hd, xs, rel, dd⟩ := dt_rd I.hok e
    obtain ⟨w', hw, rw'⟩ := RelO.some_of (v := v) (o := (atKey xs k).map (·.2)) (by rw [l]; exact rel.val k)
    obtain ⟨p, hp, hp2⟩ := Option.map_eq_some_iff.mp hw
    refine wpAny_getItem_heap (tupleKind_room_in1 hu) (key_of I.hok eb) dd hp ?_
    rw [hp2]
    exact h w' _ (I.tok _) rw'
/-- y in d -/
theorem d_in {Q : Value → Shared → Prop} (hu : A.units + 1 < cLine) (I : Inv X pins σ H s) (g : DGet H a y o) (ry : RelV y u) (h : ∀ s', Inv X pins σ H s' → Q (.bool o.isSome) s') :
    wpAny (model X.prog X.w) A (compareOp .In u (.ref a)) Q E s := by
  rcases g with ⟨kvs, k, e, ey, l⟩ | ⟨kvs, k, b, e, ey, eb, l⟩
  · subst ey
    obtain ⟨z, hd, vs, rel, dd⟩ := dk_rd I.hok e
    refine wpAny_in_of (kV_is ry) hd dd.mapOf ?_
    rw [← (rel.val k).isSome_eq, ← l]
    exact h _ (I.tok _)
  · subst ey
    cases (show u = Value.ref b from ry)
    obtain ⟨z, hd, xs, rel, dd⟩ := dt_rd I.hok e
    refine wpAny_in_heap (tupleKind_room_in1 hu) (key_of I.hok eb) hd dd ?_
    have q := (rel.val k).isSome_eq
    rw [Option.isSome_map] at q
    rw [← q, ← l]
    exact h _ (I.tok _)
theorem d_notIn {Q : Value → Shared → Prop} (hu : A.units + 1 < cLine) (I : Inv X pins σ H s) (g : DGet H a y o) (ry : RelV y u) (h : ∀ s', Inv X pins σ H s' → Q (.bool (!o.isSome)) s') :
    wpAny (model X.prog X.w) A (compareOp .NotIn u (.ref a)) Q E s := by
  rcases g with ⟨kvs, k, e, ey, l⟩ | ⟨kvs, k, b, e, ey, eb, l⟩
  · subst ey
    obtain ⟨z, hd, vs, rel, dd⟩ := dk_rd I.hok e
    refine wpAny_notIn_of (kV_is ry) hd dd.mapOf ?_
    rw [← (rel.val k).isSome_eq, ← l]
    exact h _ (I.tok _)
  · subst ey
    cases (show u = Value.ref b from ry)
    obtain ⟨z, hd, xs, rel, dd⟩ := dt_rd I.hok e
    refine wpAny_notIn_heap (tupleKind_room_in1 hu) (key_of I.hok eb) hd dd ?_
    have q := (rel.val k).isSome_eq
    rw [Option.isSome_map] at q
    rw [← q, ← l]
    exact h _ (I.tok _)
/-- a dict's object is replaced -/
theorem d_write {h' : Heap} {t' : Nat} {ob : HO} (I : Inv X pins σ H s) (mu : Mut (H a)) (hs : Heap.SameBut a s.heap h') (he : ∃ q, h'.get? a = some q) (new : ObjOk X.prog X.w (upd H a ob) h' a ob) :
    Inv X pins σ (upd H a ob) { s with heap := h', toks := t' } :=
  I.write (x := a) (e := a) mu (.inl rfl) (fun b q hb z => (hs.2 b hb).trans z) he new
theorem dk_new {P : Program} {w : World} {H' : Hp} {h' : Heap} {kvs : List (Key × V)} {vs : List (Key × Value)} (z : kvs.length ≤ sizeLine) (hd : (a == sysModules) = false) (rel : KV kvs vs) (dd : h'.DictOf (mixKind P w) a vs) :
    ObjOk P w H' h' a (.dK kvs) := ⟨z, hd, vs, rel, dd⟩
/-- d[y] = v -/
theorem d_setItem {H' : Hp} {Q : Unit → Shared → Prop} (hu : A.units + 1 < cLine) (I : Inv X pins σ H s) (g : DPut H a y v H') (ry : RelV y u) (rv : RelV v r) (h : ∀ s', Inv X pins σ H' s' → Q () s') :
    wpAny (model X.prog X.w) A (setItem (.ref a) u r) Q E s := by
  rcases g with ⟨kvs, k, e, ey, l, eH⟩ | ⟨kvs, k, b, e, ey, eb, l, eH⟩
  · subst ey eH
    obtain ⟨z, hd, vs, rel, dd⟩ := dk_of I.hok e
    have hz : vs.length ≤ sizeLine := by rw [← rel.length]; exact z
    have hl : (putK kvs k v).length ≤ sizeLine := by have := length_putK kvs k v; omega
    refine wpAny_setItem_pairs (hsz := hz) (kV_is ry) dd fun h' dd' hs => h _ ?_
    have he : ∃ q, h'.get? a = some q := let ⟨q, _, _, hq, _⟩ := dd'; ⟨q, hq⟩
    exact d_write I (by rw [e]; exact True.intro) hs he (dk_new hl hd (rel.put k rv) dd')
  · subst ey eH
    cases (show u = Value.ref b from ry)
    obtain ⟨z, hd, xs, rel, dd⟩ := dt_of I.hok e
    have hz : xs.length ≤ sizeLine := by rw [← Paired.length rel]; exact z
    have hl : (putK kvs k v).length ≤ sizeLine := by have := length_putK kvs k v; omega
    refine wpAny_setItem_heap (hsz := hz) (tupleKind_room_in1 hu) (key_of I.hok eb) dd fun h' dd' hs => h _ ?_
    obtain ⟨q, es, ep, hq, h2, h3, h4, _, h5⟩ := dd'
    refine d_write I (by rw [e]; exact True.intro) hs ⟨q, hq⟩ ⟨hl, hd, _, (rel.put k eb rv).keeps fun c ys ec => ?_, q, es, ep, hq, h2, h3, h4, h5⟩
    rw [upd_ne (ne_of ec e (fun z => nomatch z))]
    exact ec
end

section
variable {X : Cx} {pins : List (Addr × Obj)} {σ : St} {H : Hp} {s : Shared} {a : Addr} {kvs : List (Key × V)} {k : Key} {u : Value} {A : Around} {E : Value → Shared → Prop}
/-- del d[k] -/
theorem d_delItem {Q : Unit → Shared → Prop} (I : Inv X pins σ H s) (e : H a = some (.dK kvs)) (ry : RelV (kV k) u) (l : (valV kvs k).isSome = true) (h : ∀ s', Inv X pins σ (upd H a (.dK (dropK kvs k))) s' → Q () s') :
    wpAny (model X.prog X.w) A (delItem (.ref a) u) Q E s := by
  obtain ⟨z, hd, vs, rel, dd⟩ := dk_of I.hok e
  refine wpAny_delItem_slot dd.typeIs (by decide) PySem.F.slot_dict_delitem
    (call_meetsIn PySem.F.slot_dict_delitem dd.typeIs PySem.F.entry_dict_delitem (PySem.F.args_dict_delitem_2 _ _) (meets_dict_delitem_pairs (mixKind X.prog X.w) a (kV_is ry)) ⟨vs, dd, by rw [← rel.length]; exact z, by rw [← (rel.val k).isSome_eq]; exact l, fun h' dd' hs => h _ ?_⟩)
  have he : ∃ q, h'.get? a = some q := let ⟨q, _, _, hq, _⟩ := dd'; ⟨q, hq⟩
  exact d_write I (by rw [e]; exact True.intro) hs he (dk_new (Nat.le_trans (dropK_le kvs k) z) hd (rel.drop k) dd')
/-- d.pop(k[, x]), there -/
theorem d_pop {v : V} {more : List Value} {Q : Value → Shared → Prop} (I : Inv X pins σ H s) (e : H a = some (.dK kvs)) (ry : RelV (kV k) u) (l : valV kvs k = some v) (hm : more = [] ∨ ∃ x, more = [x])
    (h : ∀ w' s', Inv X pins σ (upd H a (.dK (dropK kvs k))) s' → RelV v w' → Q w' s') : wpAny (model X.prog X.w) A (call (.builtin "dict.pop") (.ref a :: u :: more)) Q E s := by
  obtain ⟨z, hd, vs, rel, dd⟩ := dk_of I.hok e
  obtain ⟨w', hw, rw'⟩ := RelO.some_of (v := v) (o := valueAt vs k) (by rw [← l]; exact rel.val k)
  have hp : (keyPart u).isSome = true := by
    cases k with
    | inl i => obtain ⟨t, q⟩ := (show ∃ t, u = Value.int i t from ry); subst q; rfl
    | inr x => obtain ⟨t, q⟩ := (show ∃ t, u = Value.str x t from ry); subst q; rfl
  have ha : argsOk "dict.pop" ⟨.ref a :: u :: more, []⟩ := by
    rcases hm with q | ⟨x, q⟩
    · subst q; exact PySem.F.args_dict_pop_2 _ _
    · subst q; exact PySem.F.args_dict_pop_3 _ _ _
  refine call_meetsIn PySem.F.slot_dict_pop dd.typeIs PySem.F.entry_dict_pop ha (meets_dict_pop_there (mixKind X.prog X.w) a (kV_is ry) more hm hp)
    ⟨vs, w', dd, by rw [← rel.length]; exact z, hw, fun h' dd' hs => h w' _ ?_ rw'⟩
  have he : ∃ q, h'.get? a = some q := let ⟨q, _, _, hq, _⟩ := dd'; ⟨q, hq⟩
  exact d_write I (by rw [e]; exact True.intro) hs he (dk_new (Nat.le_trans (dropK_le kvs k) z) hd (rel.drop k) dd')
/-- d.pop(k, x), not there -/
theorem d_popD {r : Value} {Q : Value → Shared → Prop} (I : Inv X pins σ H s) (e : H a = some (.dK kvs)) (ry : RelV (kV k) u) (l : valV kvs k = none) (h : ∀ s', Inv X pins σ H s' → Q r s') :
    wpAny (model X.prog X.w) A (call (.builtin "dict.pop") [.ref a, u, r]) Q E s := by
  obtain ⟨z, hd, vs, rel, dd⟩ := dk_of I.hok e
  have hn : valueAt vs k = none := RelO.none_of (by rw [← l]; exact rel.val k)
  have hp : (keyPart u).isSome = true := by
    cases k with
    | inl i => obtain ⟨t, q⟩ := (show ∃ t, u = Value.int i t from ry); subst q; rfl
    | inr x => obtain ⟨t, q⟩ := (show ∃ t, u = Value.str x t from ry); subst q; rfl
  exact call_meetsIn PySem.F.slot_dict_pop dd.typeIs PySem.F.entry_dict_pop (PySem.F.args_dict_pop_3 _ _ _) (meets_dict_pop_default (mixKind X.prog X.w) a (kV_is ry) hd hp r) ⟨vs, dd, hn, h _ (I.tok _)⟩
/-- d.clear() -/
theorem d_clear {Q : Value → Shared → Prop} (I : Inv X pins σ H s) (e : H a = some (.dK kvs)) (h : ∀ s', Inv X pins σ (upd H a (.dK [])) s' → Q .none s') : wpAny (model X.prog X.w) A (call (.builtin "dict.clear") [.ref a]) Q E s := by
  obtain ⟨z, hd, vs, rel, dd⟩ := dk_of I.hok e
  refine call_meetsIn PySem.F.slot_dict_clear dd.typeIs PySem.F.entry_dict_clear (PySem.F.args_dict_clear_1 _) (meets_dict_clear (mixKind X.prog X.w) a) ⟨vs, dd, by rw [← rel.length]; exact z, fun h' dd' hs => h _ ?_⟩
  have he : ∃ q, h'.get? a = some q := let ⟨q, _, _, hq, _⟩ := dd'; ⟨q, hq⟩
  exact d_write (t' := s.toks) I (by rw [e]; exact True.intro) hs he (dk_new (Nat.zero_le _) hd .nil dd')
end


/-! ### readings and rules -/
/-- the element of a subscription, not a slice -/
def NoSl (i : Expr) : Prop := ∀ ov iv, subscripted i false ov iv = operate [ov, iv] (getItem ov iv)
theorem subD_of {prog : Program} {w : World} {A : Around} {E : Value → Shared → Prop} {s : Shared} {env : Env} {value slice : Expr} {pos : Pos} {T id : String} {Q : Value → Shared → Prop}
    (hl : typeLookup (.type T) "__getitem__" = pure (some (.builtin id))) (hs : NoSl slice)
    (h : wpAny (model prog w) A (eval value env) (fun o s₁ => wpAny (model prog w) A (eval slice env) (fun i s₂ => s₂.TypeIs o T ∧ wpAny (model prog w) A (getItem o i) Q E s₂) E s₁) E s) :
    wpAny (model prog w) A (eval (.Subscript value slice pos) env) Q E s := by
  refine Subscript_ (wpAny_mono h (fun o s₁ h₁ => wpAny_mono h₁ (fun i s₂ h₂ => ?_) fun _ _ x => x) fun _ _ x => x)
  obtain ⟨hT, h₂⟩ := h₂
  unfold subscriptTail
  refine wpAny_bind ?_
  rw [getitemInPython_of_ne hT.not_modules]
  refine wpAny_bind (wpAny_specialOf hT hl ?_)
  have fin : wpAny (model prog w) A (subscripted slice false o i) (fun r s₃ => wpAny (model prog w) A (letTemporaryGo value o r >>= fun _ => pure r) Q E s₃) E s₂ := by
    rw [hs o i]
    exact wpAny_operating (wpAny_mono h₂ (fun r s₃ h₃ => wpAny_bind (wpAny_letTemporaryGo (wpAny_pure h₃))) fun _ _ x => x)
  first
    | exact wpAny_pure (wpAny_bind fin)
    | exact wpAny_bind (wpAny_pure (wpAny_bind fin))
    | exact wpAny_bind fin

theorem dict_typeIs {X : Cx} {pins : List (Addr × Obj)} {σ : St} {H : Hp} {s : Shared} {a : Addr} {y : V} {o : Option V} (I : Inv X pins σ H s) (g : DGet H a y o) : s.TypeIs (.ref a) "dict" := by
  rcases g with ⟨kvs, k, e, _, _⟩ | ⟨kvs, k, b, e, _, _, _⟩
  · obtain ⟨_, _, vs, _, dd⟩ := dk_rd I.hok e
    exact dd.typeIs
  · obtain ⟨_, _, xs, _, dd⟩ := dt_rd I.hok e
    exact dd.typeIs

/-- d[y] -/
def tDGet (td ty : TE) : TE := fun σ H Q => td σ H fun x H1 => ty σ H1 fun y H2 => ∃ a v, x = .ref a ∧ DGet H2 a y (some v) ∧ Q v H2
/-- y in d, y not in d -/
def tDIn (ty td : TE) : TE := fun σ H Q => ty σ H fun y H1 => td σ H1 fun x H2 => ∃ a o, x = .ref a ∧ DGet H2 a y o ∧ Q (.bl o.isSome) H2
def tDNotIn (ty td : TE) : TE := fun σ H Q => ty σ H fun y H1 => td σ H1 fun x H2 => ∃ a o, x = .ref a ∧ DGet H2 a y o ∧ Q (.bl (!o.isSome)) H2
/-- d[y] = v -/
def sDPut (td ty tv : TE) : TS := fun D σ H => tv σ H fun v H1 => td σ H1 fun x H2 => ty σ H2 fun y H3 => ∃ a H4, x = .ref a ∧ DPut H3 a y v H4 ∧ D.nx σ H4
/-- d[y] op= v -/
def sDAug (td ty tv : TE) (rd : V → V → Hp → VK → Prop) : TS := fun D σ H => td σ H fun x H1 => ty σ H1 fun y H2 => ∃ a v, x = .ref a ∧ DGet H2 a y (some v) ∧
  tv σ H2 fun y2 H3 => rd v y2 H3 fun z H4 => ∃ H5, DPut H4 a y z H5 ∧ D.nx σ H5
/-- del d[y] -/
def sDDel (td ty : TE) : TS := fun D σ H => td σ H fun x H1 => ty σ H1 fun y H2 => ∃ a kvs k, x = .ref a ∧ H2 a = some (.dK kvs) ∧ y = kV k ∧ (valV kvs k).isSome = true ∧ D.nx σ (upd H2 a (.dK (dropK kvs k)))

section
variable {X : Cx} {o i e value : Expr} {pos pos' tpos : Pos} {td ty tv : TE}
theorem pe_dget (hu : X.A.units + 1 < cLine) (ho : PE X o td) (hi : PE X i ty) (hs : NoSl i) : PE X (.Subscript o i pos) (tDGet td ty) := by
  intro pins s σ H Q I h
  refine subD_of PySem.F.slot_dict_getitem.lookup hs (thn (ho pins s σ H _ I h) fun u s1 ⟨x, H1, I1, rx, q1⟩ => thn (hi pins s1 σ H1 _ I1 q1) fun iv s2 ⟨y, H2, I2, ry, a, v, ex, g, q2⟩ => ?_)
  subst ex
  obtain rfl : u = Value.ref a := rx
  exact ⟨dict_typeIs I2 g, d_getItem hu I2 g ry fun w' s3 I3 rw' => ⟨v, H2, I3, rw', q2⟩⟩
theorem pc_din (hu : X.A.units + 1 < cLine) (hi : PE X i ty) (ho : PE X o td) : PC X .In i o (tDIn ty td) := by
  intro pins s σ H Q I h
  refine thn (hi pins s σ H _ I h) fun iv s1 ⟨y, H1, I1, ry, q1⟩ => thn (ho pins s1 σ H1 _ I1 q1) fun u s2 ⟨x, H2, I2, rx, a, ov, ex, g, q2⟩ => ?_
  subst ex
  obtain rfl : u = Value.ref a := rx
  exact d_in hu I2 g ry fun s3 I3 => ⟨.bl ov.isSome, H2, I3, rfl, q2⟩
theorem pc_dnotin (hu : X.A.units + 1 < cLine) (hi : PE X i ty) (ho : PE X o td) : PC X .NotIn i o (tDNotIn ty td) := by
  intro pins s σ H Q I h
  refine thn (hi pins s σ H _ I h) fun iv s1 ⟨y, H1, I1, ry, q1⟩ => thn (ho pins s1 σ H1 _ I1 q1) fun u s2 ⟨x, H2, I2, rx, a, ov, ex, g, q2⟩ => ?_
  subst ex
  obtain rfl : u = Value.ref a := rx
  exact d_notIn hu I2 g ry fun s3 I3 => ⟨.bl (!ov.isSome), H2, I3, rfl, q2⟩
theorem ps_dput (hu : X.A.units + 1 < cLine) (ho : PE X o td) (hi : PE X i ty) (hv : PE X value tv) (hs : swapsWith value (some (.Subscript o i pos')) pos.line X.env = pure false) :
    PS X (.Assign [.Subscript o i pos'] value pos) (sDPut td ty tv) := by
  intro pins s σ H D I h
  refine wpAny_Assign_Subscript (thn (hv pins s σ H _ I h) fun r s1 ⟨v, H1, I1, rv, q1⟩ => thn (ho pins s1 σ H1 _ I1 q1) fun u s2 ⟨x, H2, I2, rx, q2⟩ => thn (hi pins s2 σ H2 _ I2 q2) fun iv s3 ⟨y, H3, I3, ry, a, H4, ex, g, q3⟩ => ?_) hs
  subst ex
  obtain rfl : u = Value.ref a := rx
  exact d_setItem hu I3 g ry rv fun s4 I4 => ⟨σ, H4, I4, q3⟩
end


/-! ### displays -/
theorem dk_empty {P : Program} {w : World} {H : Hp} (h : Heap) (hb : sysModules < h.objs.size) : ObjOk P w H (h.push { cls := .type "dict", data := .dict #[] }) h.objs.size (.dK []) :=
  ⟨Nat.zero_le _, beq_eq_false_iff_ne.mpr (Ne.symm (Nat.ne_of_lt hb)), [], .nil, Heap.DictOf.new h⟩
theorem dt_empty {P : Program} {w : World} {H : Hp} (h : Heap) (hb : sysModules < h.objs.size) : ObjOk P w H (h.push { cls := .type "dict", data := .dict #[] }) h.objs.size (.dT []) :=
  ⟨Nat.zero_le _, beq_eq_false_iff_ne.mpr (Ne.symm (Nat.ne_of_lt hb)), [], .nil, _, #[], 0, Heap.get?_push_size _ rfl, ⟨rfl, rfl, rfl⟩, rfl, rfl, List.nodup_nil⟩
/-- {}, to be a dict of the kind that is wanted -/
def tDNewK : TE := fun _ H Q => ∀ p, H p = none → Q (.ref p) (upd H p (.dK []))
def tDNewT : TE := fun _ H Q => ∀ p, H p = none → Q (.ref p) (upd H p (.dT []))
section
variable {X : Cx} {pos : Pos}
theorem pe_dnewK : PE X (.Dict [] [] pos) tDNewK := fun pins s σ H Q I h =>
  wpAny_Dict_empty ⟨.ref s.heap.objs.size, _, I.laid (a := s.heap.objs.size) (o := .dK []) (t' := s.toks) (fun _ _ q => Heap.get?_push_of_some _ q) (Nat.le_refl _) (dk_empty s.heap I.big), rfl, h _ (I.hok.fresh (Nat.le_refl _))⟩
theorem pe_dnewT : PE X (.Dict [] [] pos) tDNewT := fun pins s σ H Q I h =>
  wpAny_Dict_empty ⟨.ref s.heap.objs.size, _, I.laid (a := s.heap.objs.size) (o := .dT []) (t' := s.toks) (fun _ _ q => Heap.get?_push_of_some _ q) (Nat.le_refl _) (dt_empty s.heap I.big), rfl, h _ (I.hok.fresh (Nat.le_refl _))⟩
end

/-- the pairs of a display, from the left -/
def tPairs : List (TE × TE) → St → Hp → (List (V × V) → Hp → Prop) → Prop
  | [], _, H, Q => Q [] H
  | (tk, tv) :: r, σ, H, Q => tk σ H fun x H1 => tv σ H1 fun y H2 => tPairs r σ H2 fun ps H3 => Q ((x, y) :: ps) H3
abbrev VV : List (V × V) → List (Value × Value) → Prop := Paired fun p q => RelV p.1 q.1 ∧ RelV p.2 q.2
def PPs (X : Cx) (pos : Pos) (keys : List (Option Expr)) (values : List Expr) (trs : List (TE × TE)) : Prop :=
  ∀ (pins : List (Addr × Obj)) (s : Shared) (σ : St) (H : Hp) (Q : List (V × V) → Hp → Prop), Inv X pins σ H s → tPairs trs σ H Q →
    wpAny (model X.prog X.w) X.A (evalPairs (pairTrees keys values X.env pos)) (fun vs s' => ∃ ps H', Inv X pins σ H' s' ∧ VV ps vs ∧ Q ps H') X.xe s

def mergeK (kvs more : List (Key × V)) : List (Key × V) := more.foldl (fun acc kv => putK acc kv.1 kv.2) kvs
/-- {k: v, ..} with keys ints and texts; the new dict stands empty while the pairs are made -/
def tDisp (trs : List (TE × TE)) : TE := fun σ H Q => ∀ p, H p = none → tPairs trs σ (upd H p (.dK [])) fun ps H2 => H2 p = some (.dK []) ∧ ∃ kvs : List (Key × V), ps = kvs.map (fun kv => (kV kv.1, kv.2)) ∧ kvs.length ≤ 15 ∧ Q (.ref p) (upd H2 p (.dK (mergeK [] kvs)))


/-! ### methods -/
/-- a method call o.m(e) of a built-in, with one argument: what must be seen of the text -/
structure M1 (X : Cx) (o : Expr) (m : Str) (apos : Pos) (e : Expr) (cpos : Pos) : Prop where
  base : attributeBase o m X.env (eval o X.env) = eval o X.env
  few : ((backTo cpos (starEach [e] X.env)).all (fun x => !x.1) && (backToKw cpos (keywordEach [] X.env)).all (fun x => x.1.isSome)
    && decide (([e] : List Expr).length + ([] : List Keyword).length + (if ([] : List Keyword).isEmpty then 0 else 1) < 30)) = true
  line : (apos.endLine == cpos.line) = true
  trees : backTo cpos (starEach [e] X.env) = [(false, eval e X.env)]
structure M2 (X : Cx) (o : Expr) (m : Str) (apos : Pos) (e f : Expr) (cpos : Pos) : Prop where
  base : attributeBase o m X.env (eval o X.env) = eval o X.env
  few : ((backTo cpos (starEach [e, f] X.env)).all (fun x => !x.1) && (backToKw cpos (keywordEach [] X.env)).all (fun x => x.1.isSome)
    && decide (([e, f] : List Expr).length + ([] : List Keyword).length + (if ([] : List Keyword).isEmpty then 0 else 1) < 30)) = true
  line : (apos.endLine == cpos.line) = true
  trees : backTo cpos (starEach [e, f] X.env) = [(false, eval e X.env), (false, eval f X.env)]

/-- a is a dict, whatever its keys -/
def IsD (H : Hp) (a : Addr) : Prop := (∃ kvs, Rd H a (.dK kvs)) ∨ ∃ kvs, Rd H a (.dT kvs)
theorem isD_at {X : Cx} {pins : List (Addr × Obj)} {σ : St} {H : Hp} {s : Shared} {a : Addr} (I : Inv X pins σ H s) (d : IsD H a) :
    s.TypeIs (.ref a) "dict" ∧ (∀ b, Value.ref a = .ref b → ∃ ob, s.heap.get? b = some ob ∧ ob.dict = none) ∧ (a == sysModules) = false := by
  rcases d with ⟨kvs, e⟩ | ⟨kvs, e⟩
  · obtain ⟨_, hd, vs, _, dd⟩ := dk_rd I.hok e
    refine ⟨dd.typeIs, fun b q => ?_, hd⟩
    cases q
    obtain ⟨ob, _, _, h1, h2, _⟩ := dd
    exact ⟨ob, h1, h2.2.1⟩
  · obtain ⟨_, hd, xs, _, dd⟩ := dt_rd I.hok e
    refine ⟨dd.typeIs, fun b q => ?_, hd⟩
    cases q
    obtain ⟨ob, _, _, h1, h2, _⟩ := dd
    exact ⟨ob, h1, h2.2.1⟩

section
variable {X : Cx} {pins : List (Addr × Obj)} {σ : St} {H : Hp} {s : Shared} {a : Addr} {y d : V} {u r : Value} {o : Option V} {A : Around} {E : Value → Shared → Prop}
/-- d.get(y, x) -/
theorem d_get2 {Q : Value → Shared → Prop} (hu : A.units + 1 < cLine) (I : Inv X pins σ H s) (g : DGet H a y o) (ry : RelV y u) (rd : RelV d r) (h : ∀ w' s', Inv X pins σ H s' → RelV (o.getD d) w' → Q w' s') :
    wpAny (model X.prog X.w) A (call (.builtin "dict.get") [.ref a, u, r]) Q E s := by
  rcases g with ⟨kvs, k, e, ey, l⟩ | ⟨kvs, k, b, e, ey, eb, l⟩
  · subst ey
    obtain ⟨z, hd, vs, rel, dd⟩ := dk_rd I.hok e
    refine call_meetsIn PySem.F.slot_dict_get dd.typeIs PySem.F.entry_dict_get (PySem.F.args_dict_get_3 _ _ _) (meets_dict_get_default (mixKind X.prog X.w) a (kV_is ry) hd r) ⟨_, dd.mapOf, h _ _ (I.tok _) ?_⟩
    rw [l]
    exact (rel.val k).getD rd
  · subst ey
    cases (show u = Value.ref b from ry)
    obtain ⟨z, hd, xs, rel, dd⟩ := dt_rd I.hok e
    refine call_meetsIn PySem.F.slot_dict_get dd.typeIs PySem.F.entry_dict_get (PySem.F.args_dict_get_3 _ _ _) (meetsH_dict_get_default (tupleKind (mixKind X.prog X.w)) a b hd r) ⟨tupleKind_room_in1 hu, k, xs, key_of I.hok eb, dd, h _ _ (I.tok _) ?_⟩
    rw [l]
    exact (rel.val k).getD rd
end

def tDGet1 (td ty : TE) : TE := fun σ H Q => td σ H fun x H1 => ∃ a, x = .ref a ∧ IsD H1 a ∧ ty σ H1 fun y H2 => ∃ o, DGet H2 a y o ∧ Q (o.getD .non) H2
def tDGet2 (td ty tx : TE) : TE := fun σ H Q => td σ H fun x H1 => ∃ a, x = .ref a ∧ IsD H1 a ∧ ty σ H1 fun y H2 => tx σ H2 fun z H3 => ∃ o, DGet H3 a y o ∧ Q (o.getD z) H3
/-- d.pop(k): there; d.pop(k, x): there or not -/
def tDPop1 (td ty : TE) : TE := fun σ H Q => td σ H fun x H1 => ∃ a, x = .ref a ∧ IsD H1 a ∧ ty σ H1 fun y H2 => ∃ kvs k v, H2 a = some (.dK kvs) ∧ y = kV k ∧ valV kvs k = some v ∧ Q v (upd H2 a (.dK (dropK kvs k)))
def tDPop2 (td ty tx : TE) : TE := fun σ H Q => td σ H fun x H1 => ∃ a, x = .ref a ∧ IsD H1 a ∧ ty σ H1 fun y H2 => tx σ H2 fun z H3 => ∃ kvs k, H3 a = some (.dK kvs) ∧ y = kV k ∧
  (∀ v, valV kvs k = some v → Q v (upd H3 a (.dK (dropK kvs k)))) ∧ (valV kvs k = none → Q z H3)
section
variable {X : Cx} {o e f : Expr} {apos cpos : Pos} {td ty tx : TE}
theorem pe_dget2 (hu : X.A.units + 1 < cLine) (ho : PE X o td) (he : PE X e ty) (hf : PE X f tx) (m : M2 X o "get" apos e f cpos) : PE X (.Call (.Attribute o "get" apos) [e, f] [] cpos) (tDGet2 td ty tx) := by
  intro pins s σ H Q I h
  refine wpAny_Call_method m.base m.few m.line PySem.F.plainAttrs_dict PySem.F.slot_dict_get PySem.F.type_dict_get (thn (ho pins s σ H _ I h) fun u s1 ⟨x, H1, I1, rx, a, ex, d, q1⟩ => ?_)
  subst ex
  obtain rfl : u = Value.ref a := rx
  obtain ⟨t1, t2, _⟩ := isD_at I1 d
  refine ⟨t1, t2, ?_⟩
  rw [m.trees]
  refine Calls.callWith_builtin rfl (Calls.evalArgs_plain (Calls.spliced_cons (thn (he pins s1 σ H1 _ I1 q1) fun iv s2 ⟨y, H2, I2, ry, q2⟩ =>
    Calls.spliced_cons (thn (hf pins s2 σ H2 _ I2 q2) fun fv s3 ⟨z, H3, I3, rz, ov, g, q3⟩ => Calls.spliced_nil ?_))))
  exact d_get2 hu I3 g ry rz fun w' s4 I4 rw' => ⟨_, H3, I4, rw', q3⟩
end

/-! ### dict(d): a copy -/
section
variable {X : Cx} {pins : List (Addr × Obj)} {σ : St} {H : Hp} {s : Shared} {a : Addr} {kvs : List (Key × V)} {A : Around} {E : Value → Shared → Prop}
theorem d_copyOf {Q : Value → Shared → Prop} (I : Inv X pins σ H s) (e : Rd H a (.dK kvs)) (h : ∀ p s', H p = none → Inv X pins σ (upd H p (.dK kvs)) s' → Q (.ref p) s') : wpAny (model X.prog X.w) A (call (.type "dict") [.ref a]) Q E s := by
  obtain ⟨z, hd, vs, rel, dd⟩ := dk_rd I.hok e
  refine kt_call_dict hd dd (by rw [← rel.length]; exact z) fun h' dd' hs => ?_
  refine h _ _ (I.hok.fresh (Nat.le_refl _)) (I.laid (a := s.heap.objs.size) (o := .dK kvs) (t' := s.toks) (fun b q hq => ?_) (Nat.le_refl _) (dk_new z (beq_eq_false_iff_ne.mpr (Ne.symm (Nat.ne_of_lt I.big))) rel dd'))
  exact (hs.2 b (Nat.ne_of_lt (Heap.lt_size hq))).trans (Heap.get?_push_of_some _ hq)
end


section
variable {X : Cx} {pins : List (Addr × Obj)} {σ : St} {H : Hp} {s : Shared} {a : Addr} {y : V} {u : Value} {A : Around} {E : Value → Shared → Prop}
end
end L2

namespace Att
open PySem PySem.W PySem.Calls PyProof.Rows

/-! ### the script -/
theorem ints_of_wellAll {P : Params} {h : Heap} : ∀ (ns : List Int) (vs : List Value), WellAll P h vs (ns.map WData.int) → IntsAre vs ns := by
  intro ns
  induction ns with
  | nil =>
    intro vs w
    rw [List.map_nil] at w
    cases w
    exact .nil
  | cons n ns ih =>
    intro vs w
    rw [List.map_cons] at w
    cases w with
    | cons a b =>
      cases a
      exact .cons _ _ (ih _ b)

theorem script_of {l : OpenLaw} {n : Nat} (hn : l.most = some n) {P : Params} {h : Heap} {args : List WData} {vals : List Value}
    (hpre : l.row.toRowW.claim.pre args = true) (hwl : WellAll P h vals args) :
    ∃ a vs ns, vals = [Value.ref a] ∧ args = [WData.list (ns.map WData.int)] ∧ h.get? a = some { cls := .type "list", data := .seq vs.toArray } ∧ IntsAre vs ns ∧ ns.length ≤ n := by
  have hsh : WShape.hasAll [] args [.list .int] = true := (pre_splitW hpre).1
  have hc : l.pre.holds [] { args := args } = true := (pre_splitW hpre).2
  obtain ⟨d, r, rfl, h1, h2⟩ := hasAllW_cons hsh
  obtain rfl := hasAllW_nil h2
  obtain ⟨xs, rfl, h3⟩ := hasW_list h1
  obtain ⟨ns, rfl⟩ := items_int h3
  have hlen : ns.length ≤ n := by
    unfold OpenLaw.pre at hc
    have h4 : (WTm.not (.lt (.lit (.int (n : Int))) (.len (.arg 0)))).holds [] { args := [.list (ns.map .int)] } = true := by
      have h4 := (holds_andW hc).1
      rw [hn] at h4
      exact h4
    have h5 := condW_of h4 (w_not (w_lt w_lit (w_len_list (w_arg rfl))))
    rw [List.length_map] at h5
    refine Nat.le_of_not_lt fun q => ?_
    have q' : (n : Int) < ((ns.length : Nat) : Int) := by omega
    first
      | (rw [decide_eq_true q'] at h5; exact absurd h5 (by decide))
      | (simp at h5; omega)
  cases hwl with
  | cons w1 w2 =>
    cases w2
    cases w1 with
    | list ho hall => exact ⟨_, _, ns, rfl, rfl, ho, ints_of_wellAll ns _ hall, hlen⟩

theorem post_true (l : OpenLaw) (args : List WData) : l.row.toRowW.claim.post args (.bool true) args = true :=
  postW_of (r := l.row.toRowW) (X := (true == true))
    (show WShape.has [] (.bool true) .bool = true by first | rfl | decide | simp [WShape.has, WShape.arms, WShape.armsAll])
    (show (WTm.eq .res (.lit (.bool true))).value [] { args := args, res := some (.bool true), after := args } = some (.bool (true == true)) from w_eq_bool (w_res rfl) w_lit) rfl

/-! ### the attachment: holds_open's last premise (the goal 'hc' behind k_head) from a wpAny of the law's body -/

/-- the same from a codeAny of the CALL (for a layer whose function contracts speak of calls) -/
theorem attach_call {l : OpenLaw} {n : Nat} {q : Program} {loose : List Str} {XP : (Str → Option Value) → Heap → Prop} {YP : World → Heap → Prop} {d : DefRec}
    (hn : l.most = some n) (hdf : d.params.defaults = [])
    (call : ∀ (w : World) (s₀ s₁ : Shared) (mg mb : Str → Option Value) (fa : Addr) (o : Obj) (pm cd doc : Value) (a : Addr) (vs : List Value) (ns : List Int),
      Ground q loose [] XP w s₀ mg mb s₁.heap → YP w s₁.heap →
      s₁.heap.get? fa = some o → o.data = .func (docDef d.name d.params d.body d.scope pm cd doc) → s₁.heap.CodeRec cd d.name → mg d.name = some (.ref fa) →
      s₁.heap.get? a = some { cls := .type "list", data := .seq vs.toArray } → IntsAre vs ns → ns.length ≤ n → s₁.gens = #[] →
      codeAny (model l.prog w) callerA (.call (.ref fa) ⟨[.ref a], []⟩) (fun r s' => r = .ok (.ret (.bool true)) ∧ OldK s₁.heap s'.heap ∧ s'.os = s₁.os ∧ AllBare s'.gens) s₁) :
    WalkO q loose XP YP l.row.toRowW d [] (fun f vs => PySem.call f vs) := by
  intro w s₀ s₁ mg mb G Y fa o pm cd doc dV kV ho hd hcd hD hmg hg args vals as hpre hlay hrd hwl hlo
  obtain rfl : dV = .none := Dflts.none hD hdf
  obtain rfl : kV = .none := Dflts.noKw hD
  obtain ⟨a, vs, ns, rfl, rfl, hobj, hints, hlen⟩ := script_of hn hpre hwl
  refine enter_call (codeAny_mono (call w s₀ s₁ mg mb fa o pm cd doc a vs ns G Y ho (fd_plain hd) hcd hmg hobj hints hlen hg) fun r s' hq => ?_)
  obtain ⟨rfl, h2, h3, h4⟩ := hq
  exact ⟨.inl ⟨.bool true, .bool true, [], rfl, fun _ => rfl, .bool true, post_true l _, fun _ => ⟨List.Pairwise.nil, fun _ hm => (nomatch hm)⟩⟩, h2, h3, h4⟩


/-! ### rules over ANY heap (no ledger) from facts about the written part K: the library's own take a ledger (News) for what they write -/
section
variable {prog : Program} {w : World} {A : Around} {E : Value → Shared → Prop} {s : Shared} {K : Frag}





/-! the whole heap as the ledger: makes every rule that writes through a ledger a rule over any heap -/
def noObjs (h : Heap) : Heap := { h with objs := #[] }
def ledger (h : Heap) (L d : Addr) : List (Addr × Obj) := (List.range h.objs.size).filterMap fun a => if a = L ∨ a = d then none else (h.get? a).map fun o => (a, o)

end
end Att

namespace L2
open PySem PySem.Spec PyProof.Rows

theorem vals_ints : ∀ {vs : List Value} {ns : List Int}, IntsAre vs ns → Vals (ns.map V.int) vs
  | _, _, .nil => .nil
  | _, _, .cons n t h => .cons ⟨t, rfl⟩ (vals_ints h)

/-- nothing is tracked but the script, known to the object (or it is an object of the module) -/
def Only (H : Hp) : Prop := ∀ b, H b = none ∨ ∃ o xs, H b = some (.frz o (.lst xs))

/-- THE HEAD: the law's promise, at the heap behind the top. F, the promise of the law's def, may use that base is part of the heap (so K.In base, base.Ns mainGlobals mg stand in Mod) -/
theorem law_call {P : Program} {w : World} {K : PySem.W.Frag} {mg mb : Str → Option Value} {CX : CXT} {k : Nat} {fa a : Addr} {fd : FuncData} {x : Str} {sp : Sp} {s₁ : Shared} {vs : List Value} {ns : List Int}
    (KX : K.In s₁.heap) (hns : s₁.heap.Ns mainGlobals mg) (hb : s₁.heap.Ns builtinsNs mb) (hbb : ∀ x : Str, x ≠ "__name__" → mb x = bootBuiltins x) (hlim : s₁.heap.NoLimit) (hg : s₁.gens = #[])
    (ha : s₁.heap.get? a = some { cls := .type "list", data := .seq vs.toArray }) (hi : IntsAre vs ns) (hl : ns.length ≤ sizeLine) (hr : Room k callerA)
    (F : ∀ base : Heap, K.In base → base.Ns mainGlobals mg → FnOk P w K mg base CX k fa fd [x] sp) (hbind : ∀ (s : Shared) (u : Value), BindsTo s fd ⟨[u], []⟩ [(x, u)])
    (hsp : ∀ H : Hp, Only H → SqL K H a (ns.map V.int) → sp [.ref a] H (fun v _ => v = .bl true) fun _ _ _ => False)
    (hCX : ∀ H e s', CX [] H s₁ (fun _ _ _ => False) e s' → False) :
    codeAny (model P w) callerA (.call (.ref fa) ⟨[.ref a], []⟩) (fun r s' => r = .ok (.ret (.bool true)) ∧ OldK s₁.heap s'.heap ∧ s'.os = s₁.os ∧ AllBare s'.gens) s₁ := by
  have rv := vals_ints hi
  have lenV := hi.length
  -- from an abstract heap in which nothing but the script may be tracked
  have core : ∀ H : Hp, Only H → SqL K H a (ns.map V.int) → HOk P w H s₁.heap → (∀ b, H b ≠ none → b = a) → (H a ≠ none → K.lookup a = none) →
      codeAny (model P w) callerA (.call (.ref fa) ⟨[.ref a], []⟩) (fun r s' => r = .ok (.ret (.bool true)) ∧ OldK s₁.heap s'.heap ∧ s'.os = s₁.os ∧ AllBare s'.gens) s₁ := by
    intro H hO hS hok hA hK
    have base_of : ∀ {b : Addr} {o : Obj}, s₁.heap.get? b = some o → H b = none → (hidT s₁.heap H).get? b = some o := fun e n => hidT_get e n
    have noA : ∀ {b : Addr} {o : Obj} {es : Array DictEntry} {ep : Nat}, s₁.heap.get? b = some o → o.data = .dict es ep → H b = none := fun {b o es ep} e d => by
      cases q : H b with
      | none => rfl
      | some u =>
        have e' : b = a := hA b (by rw [q]; simp)
        subst e'
        rw [ha] at e; cases e
        have d' : Data.seq vs.toArray _ = Data.dict es ep := d
        cases d'
    have nsK : ∀ {b : Addr} {m : Str → Option Value}, s₁.heap.Ns b m → (hidT s₁.heap H).Ns b m := fun {b m} ⟨o, es, ep, e, d, r⟩ => ⟨o, es, ep, base_of e (noA e d), d, r⟩
    have hKb : K.In (hidT s₁.heap H) := fun b o e => base_of (KX b o e) (by
      cases q : H b with
      | none => rfl
      | some u =>
        have e' : b = a := hA b (by rw [q]; simp)
        subst e'
        rw [hK (by rw [q]; simp)] at e; cases e)
    have hM : Mod K mg (hidT s₁.heap H) := ⟨hKb, nsK hns, ⟨mb, nsK hb, hbb⟩, let ⟨mc, h1, h2⟩ := hlim; ⟨mc, nsK h1, h2⟩⟩
    have e0 : Env0 P w K mg (hidT s₁.heap H) callerA [] s₁ H := ⟨rfl, hM, fun b o e => of_hidT e, Nat.le_of_eq (hidT_size _ _), trivial, fun b hb => absurd (show b ∈ ([] : List Addr) from hb) (by simp), hok, .of_eq hg⟩
    refine codeAny_mono ((F _ hKb (nsK hns)).run callerA [] s₁ H ⟨[.ref a], []⟩ [.ref a] [.ref a] _ _ hr e0 (hbind s₁ (.ref a)) (.cons rfl .nil) (hsp H hO hS)) fun r s' h => ?_
    cases r with
    | error e => exact (hCX H e s' h).elim
    | ok fl =>
      cases fl with
      | next => exact False.elim h
      | brk => exact False.elim h
      | cont => exact False.elim h
      | ret u =>
        obtain ⟨v, H', os, bare, un, hok', r', q⟩ := h
        have q' : v = .bl true := q
        subst q'
        obtain rfl : u = Value.bool true := r'
        refine ⟨rfl, OldK.of_keep fun b o e => ?_, os, bare⟩
        cases q : H b with
        | none => exact un.keep b o e q (by intro z; exact absurd (show b ∈ ([] : List Addr) from z) (by simp)) (by simp)
        | some u =>
          rcases hO b with z | ⟨ob, xs, z⟩
          · rw [q] at z; cases z
          · have z2 := un.frzs b ob _ z
            obtain ⟨e1, _⟩ := hok b _ z
            obtain ⟨e2, _⟩ := hok' b _ z2
            rw [e] at e1; cases e1
            exact e2
  cases hk : K.lookup a with
  | some o =>
    -- the script is one of the module's own objects
    have e := KX a o hk
    rw [ha] at e
    cases e
    refine core (fun _ => none) (fun _ => .inl rfl) (.inr ⟨_, vs.toArray, _, hk, rfl, rfl, rfl, by rw [List.size_toArray, lenV]; exact hl, by simpa using rv⟩) (fun b u z => by have z' : (none : Option HO) = some u := z; cases z') (fun b z => absurd rfl z) fun z => absurd rfl z
  | none =>
    refine core (fun b => if b = a then some (.frz { cls := .type "list", data := .seq vs.toArray } (.lst (ns.map V.int))) else none) (fun b => ?_) (.inl (.inr ⟨{ cls := .type "list", data := .seq vs.toArray }, if_pos rfl⟩)) (fun b u z => ?_) (fun b z => ?_) fun _ => hk
    · by_cases hb : b = a
      · exact .inr ⟨_, _, if_pos hb⟩
      · exact .inl (if_neg hb)
    · by_cases hb : b = a
      · have z' := (if_pos hb).symm.trans z
        cases z'
        subst hb
        exact ⟨ha, by rw [List.length_map]; exact hl, vs, _, rv, ha⟩
      · have z' := (if_neg hb).symm.trans z
        cases z'
    · by_cases hb : b = a
      · exact hb
      · exact absurd (if_neg hb) z
end L2

namespace L2
open PySem PySem.Spec PyProof.Rows

abbrev KOf {K : PySem.W.Frag} {h : Heap} (_ : K.In h) : PySem.W.Frag := K

/-- the goal that k_head leaves (case hc), from the law's promise. F gives the function object fd (K's own) once, then the promise over every base -/
theorem walk_of {l : PySem.W.OpenLaw} {n k : Nat} {q : Program} {loose : List Str} {XP : (Str → Option Value) → Heap → Prop} {YP : World → Heap → Prop} {d : DefRec} {K : Params → PySem.W.Frag} {CX : World → CXT} {sp : World → Sp} {x : Str}
    (hn : l.most = some n) (hn2 : n ≤ sizeLine) (hdf : d.params.defaults = []) (hr : Room k callerA)
    (hY : ∀ (w : World) (h : Heap), YP w h → (K w.params).In h)
    (F : ∀ (w : World) (mg : Str → Option Value) (fa : Addr) (h : Heap), (K w.params).In h → h.Ns mainGlobals mg → mg d.name = some (.ref fa) →
      ∃ fd : FuncData, (∀ (s : Shared) (u : Value), BindsTo s fd ⟨[u], []⟩ [(x, u)]) ∧
        ∀ base : Heap, (K w.params).In base → base.Ns mainGlobals mg → FnOk l.prog w (K w.params) mg base (CX w) k fa fd [x] (sp w))
    (hsp : ∀ (w : World) (H : Hp) (a : Addr) (ns : List Int), ns.length ≤ n → Only H → SqL (K w.params) H a (ns.map V.int) → sp w [.ref a] H (fun v _ => v = .bl true) fun _ _ _ => False)
    (hCX : ∀ (w : World) (H : Hp) (s : Shared) (e : Value) (s' : Shared), CX w [] H s (fun _ _ _ => False) e s' → False) :
    PySem.W.WalkO q loose XP YP l.row.toRowW d [] (fun f vs => PySem.call f vs) := by
  refine Att.attach_call hn hdf fun w s₀ s₁ mg mb fa o pm cd doc a vs ns G Y ho hd hcd hmg hobj hints hlen hg => ?_
  have KX := hY w _ Y
  obtain ⟨fd, hb, hF⟩ := F w mg fa _ KX G.T.g hmg
  exact law_call KX G.T.g G.T.b G.T.builtins G.T.nolimit hg hobj hints (Nat.le_trans hlen hn2) hr hF hb (fun H hO hS => hsp w H a ns hlen hO hS) fun H e s' => hCX w H s₁ e s'
/-- the same where the promise hangs on the written part alone: (sp := My.sp_law), no hole under a binder -/
theorem walk_ofK {l : PySem.W.OpenLaw} {n k : Nat} {q : Program} {loose : List Str} {XP : (Str → Option Value) → Heap → Prop} {YP : World → Heap → Prop} {d : DefRec} {K : Params → PySem.W.Frag} {CX : CXT} {sp : PySem.W.Frag → Sp} {x : Str}
    (hn : l.most = some n) (hn2 : n ≤ sizeLine) (hdf : d.params.defaults = []) (hr : Room k callerA)
    (hY : ∀ (w : World) (h : Heap), YP w h → (K w.params).In h)
    (F : ∀ (w : World) (mg : Str → Option Value) (fa : Addr) (h : Heap), (K w.params).In h → h.Ns mainGlobals mg → mg d.name = some (.ref fa) →
      ∃ fd : FuncData, (∀ (s : Shared) (u : Value), BindsTo s fd ⟨[u], []⟩ [(x, u)]) ∧
        ∀ base : Heap, (K w.params).In base → base.Ns mainGlobals mg → FnOk l.prog w (K w.params) mg base CX k fa fd [x] (sp (K w.params)))
    (hsp : ∀ (K : PySem.W.Frag) (H : Hp) (a : Addr) (ns : List Int), ns.length ≤ n → Only H → SqL K H a (ns.map V.int) → sp K [.ref a] H (fun v _ => v = .bl true) fun _ _ _ => False)
    (hCX : ∀ (H : Hp) (s : Shared) (e : Value) (s' : Shared), CX [] H s (fun _ _ _ => False) e s' → False) :
    PySem.W.WalkO q loose XP YP l.row.toRowW d [] (fun f vs => PySem.call f vs) :=
  walk_of (K := K) (CX := fun _ => CX) (sp := fun w => sp (K w.params)) hn hn2 hdf hr hY F (fun w H a ns h1 h2 h3 => hsp (K w.params) H a ns h1 h2 h3) fun _ H s e s' => hCX H s e s'
end L2

/- THE LAST THEOREM (shape; LID, My.* are yours):
   My.Adr: a structure of the addresses that your layer names (classes, functions); My.Txt K t: a structure (Prop) of the equations over K;
   My.txt_mk : {K} {implicit addresses ..} (e1 : nsIn K mainGlobals "law" = some (some (.ref f))) (e2 : K.lookup f = some ⟨oc, od, .func (fnOf "law" "law" params body scope dV kV doc pm an cdv ct), sl⟩) (e3 : codeIn K cdv "law" = true) .. : ∃ t, My.Txt K t

set_option maxRecDepth 100000 in
set_option maxHeartbeats 0 in
theorem PySem.Challenge.cw_LID_holds : PySem.Challenge.rw_LID.Holds := by
  w_on; o_law; k_head; (case hw => w_witness2)
  k_fill
  refine L2.walk_of (l := PySem.Challenge.rw_LID) (n := 63) (k := 40) (x := "script") (CX := fun w => ..) (sp := fun _ => My.sp_law) rfl (by decide) rfl ⟨rfl, by decide, by decide⟩ (fun w h Y => PySem.W.kIn_of Y) ?F ?S ?C
  case F =>
    intro w mg fa h KX G hmg
    have T : ∃ t, My.Txt (L2.KOf KX) t := by
      dsimp only [L2.KOf]                          -- K must stand as «<heap const> w.params» for k_is
      refine' My.txt_mk ?e1 ?e2 ?e3 ..
      (case e1 => PySem.W.k_is)                    -- in the order: a name -> its address -> its object -> its parts
      (case e2 => PySem.W.k_is)
      ..
    obtain ⟨t, T⟩ := T
    have e0 := hmg.symm.trans (PySem.W.mg_of KX G T.law)
    cases e0                                       -- fa is the law's own address
    exact ⟨_, fun s u => .of_eq rfl, fun base kb nb => My.law_fn T kb nb⟩     -- if «.of_eq rfl» comes too early: refine' ⟨_, ?b, fun base kb nb => My.law_fn T kb nb⟩; exact fun s u => .of_eq rfl
  case S => exact fun w H a ns hl hO hS => ..
  case C => exact ..
(the tactic k_is has no namespace: write k_is) -/

/-! SHORT WORDS over the layer: a def of the text, its body, what a loop and a test want. -/
namespace L2
open PySem PySem.Spec PyProof.Rows

/-! ### the text by places -/
/-- the j-th statement of a class's body -/
def inClass (s : Stmt) (j : Nat) : Stmt := match s with
  | .ClassDef _ _ _ body _ _ _ _ _ _ _ => body.getD j (.Pass ⟨0, 0, 0, 0⟩)
  | _ => .Pass ⟨0, 0, 0, 0⟩
def defArgs (s : Stmt) : Arguments := match s with
  | .FunctionDef _ a _ _ _ _ _ _ _ _ => a
  | _ => { posonlyargs := [], args := [], vararg := none, kwonlyargs := [], kw_defaults := [], kwarg := none, defaults := [] }
def defBody (s : Stmt) : List Stmt := match s with
  | .FunctionDef _ _ b _ _ _ _ _ _ _ => b
  | _ => []
def defScope (s : Stmt) : Scope := match s with
  | .FunctionDef _ _ _ _ _ _ sc _ _ _ => sc
  | _ => { kind := .function, names := [], isGenerator := false, isCoroutine := false }

/-! ### no exception leaves a def -/
abbrev CX0 : CXT := fun _ _ _ _ _ _ => False
abbrev E0 : XK := fun _ _ _ => False
theorem pass0 {X : Cx} : Passes CX0 X E0 := fun _ _ _ _ _ _ _ h => h.elim

/-! ### a def (or method) of the text as it stands behind the top -/
structure Fun (K : PySem.W.Frag) (x qual : Str) (st : Stmt) (f : Addr) (fd : FuncData) : Prop where
  ex : ∃ (oc : Value) (od : Option Addr) (kV doc pm : Value) (an : Option Addr) (cdv ct : Value) (osl : Array (Option Value)),
    fd = PySem.W.fnOf x qual (defArgs st) (defBody st) (defScope st) .none kV doc pm an cdv ct ∧ K.lookup f = some ⟨oc, od, .func fd, osl⟩ ∧ PySem.W.codeIn K cdv qual = true
  kp : PySem.W.keepIn K (.ref f) = true
section
variable {P : Program} {w : World} {K : PySem.W.Frag} {mg : Str → Option Value} {base : Heap}
/-- THE RULE for a def: its body as a term of rules, and the reading of that term -/
theorem Fun.ok {x qual : Str} {st : Stmt} {f : Addr} {fd : FuncData} {N ps : List Str} {k : Nat} {sp : Sp} (F : Fun K x qual st f fd) (S : FnScope N ps (defScope st)) (len : ∀ vs H Q E, sp vs H Q E → vs.length = ps.length)
    (hbody : ∀ (cdv : Value) (A : Around) (outer : List Env) (s : Shared) (H : Hp) (vs : List V) (Q : VK) (E : XK), Room k (A.deeper (envOfC qual (defScope st) s.heap.objs.size f cdv)) → sp vs H Q E →
      ∃ t, PSs (cxOf CX0 P w K mg base N qual (defScope st) f cdv A outer s H E).nox (defBody st) t ∧ t { nx := fun _ H' => Q .non H', rt := Q } (start N vs) H) : FnOk P w K mg base CX0 (k + 1) f fd ps sp := by
  obtain ⟨oc, od, kV, doc, pm, an, cdv, ct, osl, rfl, lk, hcd⟩ := F.ex
  refine fn_of lk hcd S len fun A outer s H vs Q E hr hsp => ?_
  obtain ⟨t, h, q⟩ := hbody cdv A outer s H vs Q E hr hsp
  exact ⟨t, h.nox, q⟩
/-- how its arguments bind (no defaults): h is «fun _ _ _ _ _ _ us hl => match us, hl with | [_, _], _ => rfl», one _ a parameter -/
theorem Fun.binds {x qual : Str} {st : Stmt} {f : Addr} {fd : FuncData} {ps : List Str} (F : Fun K x qual st f fd)
    (h : ∀ (kV doc pm : Value) (an : Option Addr) (cdv ct : Value) (us : List Value), us.length = ps.length → bindArgs (PySem.W.fnOf x qual (defArgs st) (defBody st) (defScope st) .none kV doc pm an cdv ct) ⟨us, []⟩ = pure (ps.zip us)) : Binds K fd ps [] := by
  obtain ⟨oc, od, kV, doc, pm, an, cdv, ct, osl, rfl, lk, hcd⟩ := F.ex
  exact .all (h kV doc pm an cdv ct)
theorem fun_mk {x qual : Str} {st : Stmt} {f : Addr} {oc : Value} {od an : Option Addr} {osl : Array (Option Value)} {kV doc pm cdv ct : Value} (l : K.lookup f = some ⟨oc, od, .func (PySem.W.fnOf x qual (defArgs st) (defBody st) (defScope st) .none kV doc pm an cdv ct), osl⟩)
    (c : PySem.W.codeIn K cdv qual = true) (k : PySem.W.keepIn K (.ref f) = true) : Fun K x qual st f (PySem.W.fnOf x qual (defArgs st) (defBody st) (defScope st) .none kV doc pm an cdv ct) := ⟨⟨oc, od, kV, doc, pm, an, cdv, ct, osl, rfl, l, c⟩, k⟩
end
theorem hu_of {A : Around} {k : Nat} (hr : Room k A) : A.units + 1 < cLine := Nat.lt_of_le_of_lt (Nat.add_le_add_left (by decide : 1 ≤ 64) _) hr.units
theorem small1000 {n : Nat} (h : n ≤ 1000) : n < sizeLine := Nat.lt_of_le_of_lt h (by decide)

/-! ### expressions in short: the name that stands in the i-th slot -/
section
variable {X : Cx}
theorem pv (i : Nat) {x : Str} {pos : Pos} (hN : X.N[i]? = some x := by rfl) (hv : Vis X.env.scope x := by first | exact Or.inl rfl | exact Or.inr (Or.inl rfl) | exact Or.inr (Or.inr rfl)) (hd : (x == ("__debug__" : Str)) = false := by decide)
    (hcd : (x == ("__classdict__" : Str)) = false := by decide) : PE X (.Name x pos) (tVar i) := pe_var hN hv hd hcd
end

/-! ### tests -/
theorem iteF {A B : Prop} (h : B) : if false = true then A else B := by
  rw [if_neg Bool.false_ne_true]
  exact h
theorem iteT {A B : Prop} (h : A) : if true = true then A else B := by
  rw [if_pos rfl]
  exact h

/-! ### heaps -/
/-- all that was tracked is as it was -/
def Same (H H' : Hp) : Prop := ∀ b o, H b = some o → H' b = some o
theorem Same.refl (H : Hp) : Same H H := fun _ _ h => h
theorem Same.trans {H H1 H2 : Hp} (a : Same H H1) (b : Same H1 H2) : Same H H2 := fun c o h => b c o (a c o h)
theorem Same.free {H H' : Hp} (e : Same H H') {l : Addr} (h : H' l = Option.none) : H l = Option.none := by
  cases q : H l with
  | none => rfl
  | some o =>
    rw [e l o q] at h
    cases h
theorem Same.seq {K : PySem.W.Frag} {H H' : Hp} {a : Addr} {xs : List V} (e : Same H H') (h : SqL K H a xs) : SqL K H' a xs := by
  rcases h with (h | ⟨o, h⟩) | h
  · exact .inl (.inl (e _ _ h))
  · exact .inl (.inr ⟨o, e _ _ h⟩)
  · exact .inr h

/-! ### a dict's pairs: keys that differ -/
section
variable {κ : Type} [DecidableEq κ]
theorem valV_not {kvs : List (κ × V)} {k : κ} (h : valV kvs k = none) : ¬ k ∈ kvs.map (·.1) := by
  intro m
  obtain ⟨p, hp, e⟩ := List.mem_map.mp m
  have q : (kvs.any fun kv => decide (kv.1 = k)) = true := List.any_eq_true.mpr ⟨p, hp, decide_eq_true e⟩
  rw [valV_any, h] at q
  exact absurd q (by simp)
theorem nd_snoc : ∀ {l : List κ} {k : κ}, l.Nodup → ¬ k ∈ l → (l ++ [k]).Nodup
  | [], k, _, _ => by simp
  | a :: r, k, h, hk => by
    obtain ⟨h1, h2⟩ := List.nodup_cons.mp h
    show (a :: (r ++ [k])).Nodup
    refine List.nodup_cons.mpr ⟨fun m => ?_, nd_snoc h2 fun m => hk (List.mem_cons.mpr (Or.inr m))⟩
    rcases List.mem_append.mp m with q | q
    · exact h1 q
    · exact hk (List.mem_cons.mpr (Or.inl (List.mem_singleton.mp q).symm))
end
end L2

set_option Elab.async false
set_option linter.all false
set_option maxRecDepth 100000
/-! COMPREHENSIONS over the hand layer (own work) -/
namespace L2
open PySem PySem.Spec PyProof.Rows

/-- the context of a comprehension's block -/
def Cx.inC (X : Cx) (sc : Scope) (cl : List (Str × Addr)) (C : Addr) (N' : List Str) (ex : List Addr) (s : Shared) (H : Hp) : Cx where
  prog := X.prog
  w := X.w
  K := X.K
  mg := X.mg
  base := X.base
  A := X.A
  N := N'
  s₀ := s
  H₀ := H
  env := compEnvC sc cl C X.env
  outer := X.stack
  stack := X.stack
  ex := ex
  fn := fun _ => false
  calm := X.calm
  pn := []
  xe := fun _ _ => False

theorem closure_go (env : Env) : ∀ (names : List (Str × NameKind)) (cs : List (Str × Addr)), (∀ x, (x, NameKind.free) ∈ names → ∃ c, env.cells.lookup x = some c) →
    (∀ x c, cs.lookup x = some c → env.cells.lookup x = some c) →
    ∃ cl : List (Str × Addr), (forIn names cs fun (p : Str × NameKind) (r : List (Str × Addr)) => if (p.2 == NameKind.free) = true then do let c ← cellOf env p.1; pure (ForInStep.yield ((p.1, c) :: r)) else pure (ForInStep.yield r) : Sem _) = pure cl ∧
      (∀ x c, cl.lookup x = some c → env.cells.lookup x = some c) ∧ (∀ x, (x, NameKind.free) ∈ names → ∃ c, cl.lookup x = some c) ∧ (∀ x c, cs.lookup x = some c → ∃ c', cl.lookup x = some c')
  | [], cs, _, h => ⟨cs, by simp only [List.forIn_nil], h, fun x hx => absurd hx (by simp), fun x c e => ⟨c, e⟩⟩
  | (n, k) :: r, cs, hf, h => by
    by_cases hk : k = NameKind.free
    · subst hk
      obtain ⟨c, hc⟩ := hf n List.mem_cons_self
      have hco : cellOf env n = pure c := by unfold cellOf; rw [hc]
      obtain ⟨cl, e, h1, h2, h3⟩ := closure_go env r ((n, c) :: cs) (fun x hx => hf x (List.mem_cons_of_mem _ hx)) (fun x c' e => by
        rw [List.lookup_cons] at e
        cases hx : x == n with
        | true => rw [hx] at e; cases e; rw [beq_iff_eq.mp hx]; exact hc
        | false => rw [hx] at e; exact h x c' e)
      refine ⟨cl, ?_, h1, fun x hx => ?_, fun x c' e' => ?_⟩
      · rw [List.forIn_cons]
        simp only [hco, beq_self_eq_true, if_true, pure_bind]
        exact e
      · rcases List.mem_cons.mp hx with z | z
        · cases z
          exact h3 n c (by rw [List.lookup_cons, beq_self_eq_true])
        · exact h2 x z
      · refine h3 x (if x == n then c else c') ?_
        rw [List.lookup_cons]
        cases hx : x == n with
        | true => simp
        | false => simpa using e'
    · obtain ⟨cl, e, h1, h2, h3⟩ := closure_go env r cs (fun x hx => hf x (List.mem_cons_of_mem _ hx)) h
      refine ⟨cl, ?_, h1, fun x hx => ?_, h3⟩
      · rw [List.forIn_cons]
        have hb : (k == NameKind.free) = false := by simpa using hk
        simp only [hb, Bool.false_eq_true, if_false, pure_bind]
        exact e
      · rcases List.mem_cons.mp hx with z | z
        · cases z; exact absurd rfl hk
        · exact h2 x z

theorem closure_ok {sc : Scope} {env : Env} (hf : ∀ x, (x, NameKind.free) ∈ sc.names → ∃ c, env.cells.lookup x = some c) :
    ∃ cl : List (Str × Addr), closureFor sc env = pure cl ∧ (∀ x c, cl.lookup x = some c → env.cells.lookup x = some c) ∧ (∀ x, (x, NameKind.free) ∈ sc.names → ∃ c, cl.lookup x = some c) := by
  obtain ⟨cl, e, h1, h2, _⟩ := closure_go env sc.names [] hf (fun x c e => by cases e)
  refine ⟨cl, ?_, h1, h2⟩
  unfold closureFor
  simp only [bind_pure]
  exact e

/-- the tests of a clause -/
def PIf (X : Cx) (ifs : List Expr) (t : TT) : Prop :=
  ∀ (pins : List (Addr × Obj)) (s : Shared) (σ : St) (H : Hp) (Q : Bool → Hp → Prop), Inv X pins σ H s → t σ H Q →
    wpAny (model X.prog X.w) X.A (forIn ifs true fun c r => if r = true then do let ok ← isTrue c X.env (eval c X.env); pure (ForInStep.yield ok) else pure (ForInStep.yield r)) (TP X pins σ Q) X.xe s
def tYes : TT := fun _ H Q => Q true H
theorem pif_nil {X : Cx} : PIf X [] tYes := fun _ _ _ H _ I h => wpAny_tests_nil ⟨H, I, h⟩
theorem pif_one {X : Cx} {c : Expr} {t : TT} (h : PT X c t) : PIf X [c] t := fun pins s σ H Q I hw => wpAny_tests_one (h pins s σ H Q I hw)

/-- the slots of a block: its own names, then the captured ones -/
def σC (n : Nat) (cap : List Nat) (σ : St) : St := List.replicate n none ++ cap.map fun j => (σ[j]?).join
def NC (X : Cx) (own : List Str) (cap : List Nat) : List Str := own ++ cap.map fun j => X.N.getD j Str.empty
/-- what is captured -/
def Caps (X : Cx) (sc : Scope) : List Nat → Prop
  | [] => True
  | j :: r => (∃ x, X.N[j]? = some x ∧ sc.names.lookup x = some .free ∧ (X.env.kindOf x = some .cell ∨ X.env.kindOf x = some .free)) ∧ Caps X sc r
theorem Caps.mem {X : Cx} {sc : Scope} : ∀ {cap : List Nat} {j : Nat}, Caps X sc cap → j ∈ cap → ∃ x, X.N[j]? = some x ∧ sc.names.lookup x = some .free ∧ (X.env.kindOf x = some .cell ∨ X.env.kindOf x = some .free)
  | [], _, _, h => absurd h (by simp)
  | _ :: _, _, c, h => (List.mem_cons.mp h).elim (fun e => e ▸ c.1) fun h' => c.2.mem h'

theorem lookup_mem {α β : Type} [BEq α] [LawfulBEq α] : ∀ {l : List (α × β)} {x : α} {b : β}, l.lookup x = some b → (x, b) ∈ l
  | [], _, _, h => by cases h
  | (y, c) :: r, x, b, h => by
    rw [List.lookup_cons] at h
    cases e : x == y with
    | true => rw [e] at h; cases h; rw [beq_iff_eq.mp e]; exact List.mem_cons_self
    | false => rw [e] at h; exact List.mem_cons_of_mem _ (lookup_mem h)

theorem lookup_mapk (f : Str × NameKind → Str × NameKind) (hf : ∀ p, (f p).1 = p.1) (x : Str) : ∀ (names : List (Str × NameKind)), (names.map f).lookup x = (names.lookup x).map fun k => (f (x, k)).2
  | [] => rfl
  | (n, k) :: r => by
    have ih := lookup_mapk f hf x r
    rw [List.map_cons, List.lookup_cons]
    obtain ⟨a, b, e⟩ : ∃ a b, f (n, k) = (a, b) := ⟨_, _, rfl⟩
    have ea : a = n := by have := hf (n, k); rw [e] at this; exact this
    subst ea
    rw [e, List.lookup_cons]
    cases hx : x == a with
    | true =>
      have hx' := beq_iff_eq.mp hx
      subst hx'
      simp [e]
    | false => simpa using ih
/-- relabelled names: of a free one cell or free; no others become so -/
theorem relabel_lookup {env : Env} {sc : Scope} {x : Str} {k : NameKind} (h : (relabel sc env).names.lookup x = some k) : (sc.names.lookup x = some k) ∨ (k = .cell ∧ sc.names.lookup x = some .free) := by
  unfold relabel at h
  rw [lookup_mapk _ (fun p => by obtain ⟨n, k⟩ := p; dsimp only; split <;> rfl)] at h
  cases e : sc.names.lookup x with
  | none => rw [e] at h; cases h
  | some k0 =>
    rw [e] at h
    simp only [Option.map_some, Option.some.injEq] at h
    split at h
    · rename_i hc
      simp at hc
      right
      exact ⟨h.symm, by rw [hc.1.1]⟩
    · left; exact congrArg some h
theorem relabel_free {env : Env} {sc : Scope} {x : Str} (h : sc.names.lookup x = some .free) : (relabel sc env).names.lookup x = some .cell ∨ (relabel sc env).names.lookup x = some .free := by
  unfold relabel
  rw [lookup_mapk _ (fun p => by obtain ⟨n, k⟩ := p; dsimp only; split <;> rfl), h]
  simp only [Option.map_some]
  split
  · exact .inl rfl
  · exact .inr rfl

section
variable {prog : Program} {w : World} {A : Around} {R : Result → Shared → Prop} {s : Shared}
/-- the loop, a target of any kind, no exception -/
theorem comp_loop {elt target iter : Expr} {ifs : List Expr} {scope : Scope} {pos : Pos} {it acc : Value} {env : Env} (I : Nat → Shared → Prop)
    (turn : ∀ n s, I n s → wpAny (model prog w) A (pyNext it) (fun r s₁ => match r with
      | none => R (.ok .next) s₁
      | some v => wpAny (model prog w) A (letOwnedTupleGo target it v) (fun _ s₀ => wpAny (model prog w) A (assign target env v) (fun _ s₂ =>
          wpAny (model prog w) A (forIn ifs true fun c r => if r = true then do let ok ← isTrue c env (eval c env); pure (ForInStep.yield ok) else pure (ForInStep.yield r)) (fun ok s₃ =>
            if ok = true then wpAny (model prog w) A (eval elt env) (fun x s₄ =>
              wpAny (model prog w) A (call (.builtin "list.append") [acc, x]) (fun _ s₅ => ∃ m, m < n ∧ I m s₅) (fun _ _ => False) s₄) (fun _ _ => False) s₃
            else ∃ m, m < n ∧ I m s₃) (fun _ _ => False) s₂) (fun _ _ => False) s₀) (fun _ _ => False) s₁) (fun _ _ => False) s)
    (n : Nat) (h : I n s) :
    codeAny (model prog w) A (.compLoop (.ListComp elt [⟨target, iter, ifs, 0⟩] scope pos) 0 it acc env) R s := by
  refine codeAny_loop rfl I (fun n s hI => ?_) n h
  show wpAny _ A ((compTurn (.ListComp elt [⟨target, iter, ifs, 0⟩] scope pos) 0 it acc env).onRaise (fun x => do noteFrame x env; theTreesLotGoes x)) _ _ s
  refine wpAny_noted ?_
  rw [compTurn_list]
  refine wpAny_bind (wpAny_standAt (wpAny_bind (wpAny_mono (turn n s hI) (fun r s₁ h₁ => ?_) fun _ _ h' => h'.elim)))
  cases r with
  | none => exact wpAny_pure h₁
  | some v =>
    refine wpAny_bind (wpAny_mono h₁ (fun _ s₀ h₀ => ?_) fun _ _ h' => h'.elim)
    refine wpAny_bind (wpAny_mono h₀ (fun _ s₂ h₂ => wpAny_bind (wpAny_mono h₂ (fun ok s₃ h₃ => ?_) fun _ _ h' => h'.elim)) fun _ _ h' => h'.elim)
    cases ok with
    | false => exact wpAny_pure ⟨rfl, h₃⟩
    | true =>
      exact wpAny_bind (wpAny_bind (wpAny_mono h₃ (fun x s₄ h₄ => wpAny_bind (wpAny_mono h₄ (fun _ s₅ h₅ => wpAny_pure (wpAny_pure ⟨rfl, h₅⟩)) fun _ _ h' => h'.elim)) fun _ _ h' => h'.elim))
end
end L2

set_option Elab.async false
set_option linter.all false
set_option maxRecDepth 100000
namespace L2
open PySem PySem.Spec PyProof.Rows

/-- a comprehension's condition, from its iterator on -/
def CompVC (J : It) (g : TG) (tt : TT) (te : TE) (σ' : St) (Post : VK) (H1 : Hp) : Prop := ∃ W : Nat → Nat → List V → Hp → Prop, (∃ m, W 0 m [] H1) ∧ ∀ i m ys H, W i m ys H → ys.length < sizeLine ∧
   ((J.stop i H ∧ ∀ p, H p = none → Post (.ref p) (upd H p (.lst ys))) ∨
    (J.go i H ∧ ∀ x H', J.yld i H x H' → g x σ' H' fun σ2 H2 => tt σ2 H2 fun b H3 => if b = true then te σ2 H3 fun y H4 => ∃ m', m' < m ∧ W (i + 1) m' (ys ++ [y]) H4 else ∃ m', m' < m ∧ W (i + 1) m' ys H3))
def tComp (n : Nat) (cap : List Nat) (wi : TI) (g : TG) (tt : TT) (te : TE) : TE := fun σ H Q => wi σ H fun J H1 => CompVC J g tt te (σC n cap σ) Q H1

theorem notfp {h : Heap} {b : Addr} {n : Nat} (e : n ≤ b) {o : Obj} (q : h.get? b = some o) (hn : h.objs.size ≤ n) : False := absurd (Nat.lt_of_lt_of_le (Heap.lt_size q) (Nat.le_trans hn e)) (Nat.lt_irrefl _)

section
variable {X : Cx} {pins : List (Addr × Obj)} {σ : St} {H2 : Hp} {s2 : Shared} {sc : Scope} {cl : List (Str × Addr)} {own : List Str} {cap : List Nat} {fp : List Addr}
/-- the block's context is well made -/
theorem Inv.inC {h₁ : Heap} {tk : Nat} {C : Addr} (I : Inv X pins σ H2 s2) (hkind : sc.kind = .function) (hcl1 : ∀ x c, cl.lookup x = some c → X.env.cells.lookup x = some c) (hcl2 : ∀ x, (x, NameKind.free) ∈ sc.names → ∃ c, cl.lookup x = some c)
    (hcell : ∀ y ∈ sc.names, y.2 ≠ .cell) (hcap : Caps X sc cap) (hC : s2.heap.objs.size ≤ C) (hfp : ∀ b ∈ fp, FpOk X pins H2 b) (hfo : ∀ b ∈ fp, ∃ o, s2.heap.get? b = some o) {m : Str → Option Value} (hns : h₁.Ns C m)
    (old : ∀ b o, s2.heap.get? b = some o → h₁.get? b = some o) : Inv (X.inC sc cl C (NC X own cap) fp s2 H2) [] (σC own.length cap σ) H2 { s2 with heap := h₁, toks := tk } := by
  have hlt : ∀ {b : Addr} {o : Obj}, s2.heap.get? b = some o → b ≠ C := fun e => Nat.ne_of_lt (Nat.lt_of_lt_of_le (Heap.lt_size e) hC)
  have mem : ∀ {x : Str} {k : NameKind}, sc.names.lookup x = some k → (x, k) ∈ sc.names := fun e => lookup_mem e
  refine ⟨⟨I.ok.mod, hkind, I.ok.glob, I.ok.blt, hC, fun x y c a b => I.ok.inj x y c (hcl1 x c a) (hcl1 y c b), fun x hx => ?_, fun x c h => (by cases h), I.ok.hd, I.ok.frames, .inl rfl, fun b hb => ⟨?_, fun x c e => ?_⟩, I.bs, Nat.le_trans I.ok.bsz I.sz, fun b o e hb => ?_, fun b hb => ?_, I.stack, I.stkFree⟩,
    rfl, I.bare, Un.kept old, ⟨m, hns, fun i x v e1 e2 e3 => ?_⟩, fun x c e => ?_, I.hok.fresh hC, fun x c e => I.freeC x c (hcl1 x c e), fun p hp => absurd (show p ∈ ([] : List (Addr × Obj)) from hp) (by simp), I.hok.kept old, ?_⟩
  · have hx : (relabel sc X.env).names.lookup x = some .cell ∨ (relabel sc X.env).names.lookup x = some .free := hx
    refine hcl2 x ?_
    rcases hx with hx | hx
    · rcases relabel_lookup hx with q | ⟨_, q⟩
      · exact absurd rfl (hcell _ (mem q))
      · exact mem q
    · rcases relabel_lookup hx with q | ⟨q, _⟩
      · exact mem q
      · cases q
  · obtain ⟨o, e⟩ := hfo b hb
    exact hlt e
  · exact (hfp b hb).2.2.2.2.1 x c (hcl1 x c e)
  · obtain ⟨_, _, _, h4, _⟩ := hfp b hb
    rcases h4 with h4 | h4
    · exact I.ok.noex b o e h4
    · exact notfp h4 e (I.ok.bsz)
  · show b ∉ frs X.stack
    intro z
    rcases List.mem_cons.mp (I.stkSub b z) with q | q
    · exact (hfp b hb).2.1 q
    · exact (hfp b hb).2.2.1 q
  · have e1 : (NC X own cap)[i]? = some x := e1
    unfold σC at e2
    unfold NC at e1
    by_cases hi : i < own.length
    · rw [List.getElem?_append_left (by simpa using hi), List.getElem?_replicate] at e2
      split at e2 <;> cases e2
    · rw [List.getElem?_append_right (by simpa using hi), List.length_replicate, List.getElem?_map] at e2
      rw [List.getElem?_append_right (by simpa using hi), List.getElem?_map] at e1
      cases ej : cap[i - own.length]? with
      | none => rw [ej] at e2; cases e2
      | some j =>
        rw [ej] at e1 e2
        simp only [Option.map_some, Option.some.injEq] at e1 e2
        obtain ⟨y, hy, hfr, hk⟩ := hcap.mem (List.mem_of_getElem? ej)
        have exy : x = y := by rw [← e1, List.getD_eq_getElem?_getD, hy]; rfl
        subst exy
        have e2' : σ[j]? = some (some v) := by
          cases q : σ[j]? with
          | none => rw [q] at e2; cases e2
          | some o => rw [q] at e2; exact congrArg some e2
        have hvis : Vis X.env.scope x := by
          rcases hk with hk | hk
          · exact .inr (.inl hk)
          · exact .inr (.inr hk)
        obtain ⟨m0, hn0, hl0⟩ := I.loc
        obtain ⟨u, r, l⟩ := hl0 j x v hy e2' hvis
        refine ⟨u, r, .inr ⟨relabel_free hfr, ?_⟩⟩
        rcases l with ⟨q, _⟩ | ⟨_, c, ec, z⟩
        · rcases hk with hk | hk <;> (rw [hk] at q; cases q)
        · obtain ⟨c', ec'⟩ := hcl2 x (mem hfr)
          have : c' = c := by have := hcl1 x c' ec'; rw [ec] at this; exact (Option.some.inj this).symm
          subst this
          obtain ⟨oc, hoc, hd⟩ := z
          exact ⟨c', ec', oc, old c' oc hoc, hd⟩
  · obtain ⟨v, oc, hoc, hd⟩ := I.cell x c (hcl1 x c e)
    exact ⟨v, oc, old c oc hoc, hd⟩
  · unfold σC NC Cx.inC
    simp

/-- back from the block -/
theorem Inv.outC {s' : Shared} {H3 : Hp} {C D : Addr} {N' : List Str} {σ' : St} {pins' : List (Addr × Obj)} {ys : List V} {its : List Value} {n : Nat} (I : Inv X pins σ H2 s2) (hfp : ∀ b ∈ fp, FpOk X pins H2 b) (hD : s2.heap.objs.size ≤ D)
    (I4 : Inv (X.inC sc cl C N' fp s2 H2) pins' σ' H3 s') (hl : s'.heap.get? D = some { cls := .type "list", data := .seq its.toArray n }) (hv : Vals ys its) (hz : ys.length ≤ sizeLine) (hn : H3 D = none) : Inv X pins σ (upd H3 D (.lst ys)) s' := by
  have ltD : ∀ {b : Addr} {o : Obj}, s2.heap.get? b = some o → b ≠ D := fun e => Nat.ne_of_lt (Nat.lt_of_lt_of_le (Heap.lt_size e) hD)
  have B : Un (frs X.stack) fp H2 H3 s2.heap s'.heap := I4.base
  have ne : ∀ {b : Addr} {o : HO}, H3 b = some o → b ≠ D := fun e z => by rw [z, hn] at e; cases e
  refine I.call' (ch := fp) I4.os ⟨B.keep, B.slot, fun b o e h0 hx => ?_, B.there, fun b xs e => ?_, fun b o u e => ?_, fun b ps e => ?_⟩ (fun b u e => ?_) I4.bare (fun b hb => ?_)
  · rw [upd_ne (ltD e)]; exact B.free b o e h0 hx
  · have := B.tups b xs e; rw [upd_ne (ne this)]; exact this
  · have := B.frzs b o u e; rw [upd_ne (ne this)]; exact this
  · obtain ⟨more, this⟩ := B.tbls b ps e
    exact ⟨more, by rw [upd_ne (ne this)]; exact this⟩
  · by_cases hb : b = D
    · subst hb
      rw [upd_same] at e
      cases e
      exact ⟨hz, its, n, hv, hl⟩
    · rw [upd_ne hb] at e
      exact (I4.hok b u e).stay (fun _ _ _ q => q) (fun c q => by rw [upd_ne (ne q)]; exact q) (fun c xs q => by rw [upd_ne (ne q)]; exact q)
  · obtain ⟨f0, f1, f2, f3, f4, f5⟩ := hfp b hb
    exact ⟨f3, f1, f4, f5⟩

/-- the rule's core: the loop from the iterator on -/
theorem comp_core {J : It} {it : Addr} {tn : Nat → Heap → Prop} {tg elt iter : Expr} {ifs : List Expr} {pos : Pos} {g : TG} {tt : TT} {te : TE} {RR : Value → Addr → Result → Shared → Prop} {Post : VK}
    (hc : X.calm = true) (I : Inv X pins σ H2 s2) (T : Turn X.prog X.w X.K tg J fp it tn) (st2 : tn 0 s2.heap) (f2 : ∀ b ∈ fp, FpOk X pins H2 b)
    (hkind : sc.kind = .function) (hcl1 : ∀ x c, cl.lookup x = some c → X.env.cells.lookup x = some c) (hcl2 : ∀ x, (x, NameKind.free) ∈ sc.names → ∃ c, cl.lookup x = some c) (hcell : ∀ y ∈ sc.names, y.2 ≠ .cell) (hcap : Caps X sc cap)
    (hg : ∀ cl C fp s H, PG (X.inC sc cl C (NC X own cap) fp s H) tg g) (ht : ∀ cl C fp s H, PIf (X.inC sc cl C (NC X own cap) fp s H) ifs tt) (he : ∀ cl C fp s H, PE (X.inC sc cl C (NC X own cap) fp s H) elt te)
    (hw : ∃ W : Nat → Nat → List V → Hp → Prop, (∃ m, W 0 m [] H2) ∧ ∀ i m ys H, W i m ys H → ys.length < sizeLine ∧
      ((J.stop i H ∧ ∀ p, H p = none → Post (.ref p) (upd H p (.lst ys))) ∨
      (J.go i H ∧ ∀ x H', J.yld i H x H' → g x (σC own.length cap σ) H' fun σ2 H2 => tt σ2 H2 fun b H3 => if b = true then te σ2 H3 fun y H4 => ∃ m', m' < m ∧ W (i + 1) m' (ys ++ [y]) H4 else ∃ m', m' < m ∧ W (i + 1) m' ys H3)))
    (hRR : ∀ (D C : Addr) (H' : Hp) (s' : Shared), Inv X pins σ H' s' → (∃ m, s'.heap.Ns C m) → FpOk X pins H' C → H' D ≠ none → Post (.ref D) H' → RR (.ref D) C (.ok .next) s') {E : Value → Shared → Prop} :
    wpAny (model X.prog X.w) X.A (newList []) (fun acc s₃ => wpAny (model X.prog X.w) X.A (newFunctionEnv sc X.env.globals cl [] X.env.qual none .none (some X.env)) (fun cenv s₄ =>
      codeAny (model X.prog X.w) X.A (.compStart (.ListComp elt [⟨tg, iter, ifs, 0⟩] sc pos) 0 (.ref it) acc { cenv with scope := relabel sc X.env }) (RR acc cenv.locals) s₄) E s₃) E s2 := by
  obtain ⟨W, ⟨m0, w0⟩, turn⟩ := hw
  refine wpAny_newObj_type (wpAny_newFunctionEnv hcell (by intro y hy; simp at hy) (fun h₁ hns₁ hsb₁ => ?_) hkind)
  dsimp only at hns₁ hsb₁ ⊢
  generalize hH : s2.heap.push { cls := .type "list", dict := none, data := .seq ([] : List Value).toArray } = HH at hns₁ hsb₁ ⊢
  have hC : HH.objs.size = s2.heap.objs.size + 1 := by rw [← hH, Heap.size_push]
  have hDC : s2.heap.objs.size ≠ HH.objs.size := by rw [hC]; exact Nat.ne_of_lt (Nat.lt_succ_self _)
  have hCle : s2.heap.objs.size ≤ HH.objs.size := by rw [hC]; exact Nat.le_succ _
  have old : ∀ b o, s2.heap.get? b = some o → h₁.get? b = some o := fun b o e => hsb₁.extBut b o (Nat.ne_of_lt (Nat.lt_of_lt_of_le (Heap.lt_size e) hCle)) (Heap.get?_push_of_some _ (hH ▸ Heap.get?_push_of_some _ e))
  have hacc : h₁.PlainList s2.heap.objs.size #[] := ⟨_, hsb₁.extBut _ _ hDC (Heap.get?_push_of_some _ (hH ▸ Heap.get?_push_size _ rfl))⟩
  have hfo : ∀ b ∈ fp, ∃ o, s2.heap.get? b = some o := fun b hb => let ⟨o, e, _⟩ := T.obj 0 s2.heap st2 b hb; ⟨o, e⟩
  have hst₁ : tn 0 h₁ := T.keep 0 _ _ st2 fun b _ o e => old b o e
  generalize hD : s2.heap.objs.size = D at hacc hDC hCle
  have hDle : s2.heap.objs.size ≤ D := Nat.le_of_eq hD
  have hCle2 : s2.heap.objs.size ≤ HH.objs.size := by rw [hD]; exact hCle
  -- the context
  let X' : Cx := X.inC sc cl HH.objs.size (NC X own cap) fp s2 H2
  have I₁ : Inv X' [] (σC own.length cap σ) H2 { s2 with heap := h₁, toks := s2.toks + ([] : List (Str × Value)).length } := I.inC hkind hcl1 hcl2 hcell hcap hCle2 f2 hfo hns₁ old
  have okX := I₁.ok
  have fpX : ∀ {H' : Hp} {pn : List (Addr × Obj)}, (∀ b ∈ fp, H' b = none) → (∀ p ∈ pn, p.1 = D) → ∀ b ∈ fp, FpOk X' pn H' b := fun {H' pn} hn hp b hb => by
    obtain ⟨o, e⟩ := hfo b hb
    refine ⟨hn b hb, (okX.exf b hb).1, okX.exfs b hb, .inl hb, (okX.exf b hb).2, fun p hq z => ?_⟩
    have hq : p ∈ pn := by
      rcases List.mem_append.mp hq with q | q
      · exact absurd (show p ∈ ([] : List (Addr × Obj)) from q) (by simp)
      · exact q
    rw [hp p hq] at z
    exact absurd (Nat.lt_of_lt_of_le (Heap.lt_size e) hDle) (by rw [← z]; exact Nat.lt_irrefl _)
  have pinD : ∀ {σ' : St} {H' : Hp} {s' : Shared} {oD : Obj}, Inv X' [] σ' H' s' → s'.heap.get? D = some oD → H' D = none → (∀ v, oD.data ≠ .cell v) → Inv X' [(D, oD)] σ' H' s' := fun {σ' H' s' oD} J e n d =>
    J.pins_of fun p hp => by
      have : p = (D, oD) := by simpa using hp
      subst this
      refine ⟨e, n, hDC, fun z => ?_, d⟩
      obtain ⟨_, o, ho, _⟩ := okX.funs.mem z
      exact notfp (Nat.le_refl D) ho hDle
  have loop : ∀ s₃ : Shared, s₃ = { s2 with heap := h₁, toks := s2.toks + ([] : List (Str × Value)).length } →
      codeAny (model X.prog X.w) X.A (.compLoop (.ListComp elt [⟨tg, iter, ifs, 0⟩] sc pos) 0 (.ref it) (.ref D) (compEnvC sc cl HH.objs.size X.env)) (RR (.ref D) HH.objs.size) s₃ := by
    rintro s₃ rfl
    refine comp_loop (fun n s' => ∃ i ys H' its nn, Inv X' [] (σC own.length cap σ) H' s' ∧ tn i s'.heap ∧ (∀ b ∈ fp, H' b = none) ∧ s'.heap.get? D = some { cls := .type "list", data := .seq (List.toArray its) nn } ∧ Vals ys its ∧ H' D = none ∧ W i n ys H') ?_ m0 ?_
    · rintro n s3 ⟨i, ys, H3, its, nn, I3, st3, fr3, hl3, hv3, hD3, w3⟩
      obtain ⟨hlen, tw⟩ := turn i n ys H3 w3
      have I3' := pinD I3 hl3 hD3 (fun v z => by cases z)
      have onlyD : ∀ p ∈ [(D, ({ cls := .type "list", data := .seq (List.toArray its) nn } : Obj))], p.1 = D := fun p hp => by simp at hp; rw [hp]
      rcases tw with ⟨stop, qn⟩ | ⟨go, step⟩
      · refine thn (T.done X' rfl rfl rfl hc i _ s3 _ H3 (fun _ _ => False) I3' (fpX fr3 onlyD) st3 stop) fun r s4 ⟨hr, I4⟩ => ?_
        subst hr
        have hl4 := (I4.pin (D, _) (List.mem_append_right _ List.mem_cons_self)).1
        have I5 := I.outC (fp := fp) f2 hDle I4 hl4 hv3 (Nat.le_of_lt hlen) hD3
        obtain ⟨m4, hn4, _⟩ := I4.loc
        refine hRR D HH.objs.size _ s4 I5 ⟨m4, hn4⟩ ?_ (by rw [upd_same]; simp) (qn D hD3)
        refine I.fpOk hCle2 ?_
        rw [upd_ne (Ne.symm hDC)]
        exact I4.free
      · refine thn (T.item X' rfl rfl rfl hc i _ s3 _ H3 (fun _ _ => False) I3' (fpX fr3 onlyD) st3 go) fun r s4 ⟨u, hr, h4⟩ => ?_
        subst hr
        refine thn h4 fun _ s5 ⟨x, H5, I5, r5, y5, st5, fr5⟩ => ?_
        have I5' := I5.pinned (fpX fr5 onlyD) (T.obj _ _ st5)
        refine thn (hg _ _ _ _ _ _ s5 _ H5 x u _ I5' r5 (step x H5 y5)) fun _ s6 ⟨σ6, H6, I6, q6⟩ => ?_
        refine thn (ht _ _ _ _ _ _ s6 σ6 H6 _ I6 q6) fun b s7 ⟨H7, I7, q7⟩ => ?_
        have back : ∀ {σ8 : St} {H8 : Hp} {s8 : Shared}, Inv X' ([(D, ({ cls := .type "list", data := .seq (List.toArray its) nn } : Obj))] ++ pinsAt fp s5.heap) σ8 H8 s8 →
            Inv X' [] (σC own.length cap σ) H8 s8 ∧ tn (i + 1) s8.heap ∧ (∀ b ∈ fp, H8 b = none) ∧ s8.heap.get? D = some { cls := .type "list", data := .seq (List.toArray its) nn } ∧ H8 D = none := fun {σ8 H8 s8} I8 => by
          have pD := I8.pin (D, _) (List.mem_append_right _ (List.mem_append_left _ List.mem_cons_self))
          refine ⟨?_, T.keep _ _ _ st5 fun b hb o e => (I8.pin (b, o) (List.mem_append_right _ (List.mem_append_right _ (mem_pinsAt hb e)))).1, fun b hb => ?_, pD.1, pD.2.1⟩
          · have I8' : Inv X' [] σ8 H8 s8 := I8.pins_of fun p hp => absurd hp (by simp)
            refine ⟨I8'.ok, I8'.os, I8'.bare, I8'.base, ?_, I8'.cell, I8'.free, I8'.freeC, I8'.pin, I8'.hok, I₁.len⟩
            -- the captured ones stand as at the entry: their cells are kept
            obtain ⟨m8, hn8, _⟩ := I8'.loc
            obtain ⟨m1, hn1, hl1⟩ := I₁.loc
            refine ⟨m8, hn8, fun i x v e1 e2 e3 => ?_⟩
            obtain ⟨u, ru, l⟩ := hl1 i x v e1 e2 e3
            refine ⟨u, ru, ?_⟩
            rcases l with ⟨k, e⟩ | ⟨k, c, ec, oc, hoc, hd⟩
            · exfalso
              have e1 : (NC X own cap)[i]? = some x := e1
              unfold σC at e2
              unfold NC at e1
              by_cases hi : i < own.length
              · rw [List.getElem?_append_left (by simpa using hi), List.getElem?_replicate] at e2
                split at e2 <;> cases e2
              · rw [List.getElem?_append_right (by simpa using hi), List.getElem?_map] at e1
                cases ej : cap[i - own.length]? with
                | none => rw [ej] at e1; cases e1
                | some j =>
                  rw [ej] at e1
                  simp only [Option.map_some, Option.some.injEq] at e1
                  obtain ⟨y, hy, hfr, hk⟩ := hcap.mem (List.mem_of_getElem? ej)
                  have exy : x = y := by rw [← e1, List.getD_eq_getElem?_getD, hy]; rfl
                  subst exy
                  have k : (relabel sc X.env).names.lookup x = some .local := k
                  rcases relabel_free (env := X.env) hfr with q | q <;> (rw [q] at k; cases k)
            · refine .inr ⟨k, c, ec, ?_⟩
              have ec2 := hcl1 x c ec
              have c0 : ∃ v, s2.heap.IsCell c v := I.cell x c ec2
              obtain ⟨v0, o0, ho0, hd0⟩ := c0
              have := old c o0 ho0
              rw [this] at hoc
              cases hoc
              have nfp : c ∉ fp := fun z => (f2 c z).2.2.2.2.1 x c ec2 rfl
              obtain ⟨sl, q⟩ := (show Un (frs X.stack) fp H2 H8 s2.heap s8.heap from I8'.base).any ho0 (I.freeC x c ec2) nfp
              exact ⟨_, q, hd⟩
          · obtain ⟨o, e, d⟩ := T.obj _ _ st5 b hb
            exact (I8.pin (b, o) (List.mem_append_right _ (List.mem_append_right _ (mem_pinsAt hb e)))).2.1
        cases b with
        | false =>
          rw [if_neg Bool.false_ne_true]
          rw [if_neg Bool.false_ne_true] at q7
          obtain ⟨m', hm, w7⟩ := q7
          obtain ⟨J1, J2, J3, J4, J5⟩ := back I7
          exact ⟨m', hm, i + 1, ys, H7, its, nn, J1, J2, J3, J4, hv3, J5, w7⟩
        | true =>
          rw [if_pos rfl]
          rw [if_pos rfl] at q7
          refine thn (he _ _ _ _ _ _ s7 σ6 H7 _ I7 q7) fun y s8 ⟨yv, H8, I8, r8, m', hm, w8⟩ => ?_
          obtain ⟨J1, J2, J3, J4, J5⟩ := back I8
          refine wpAny_list_append_plain (hsz := by rw [List.size_toArray, ← hv3.length]; exact Nat.le_of_lt hlen) ⟨nn, J4⟩ fun h₅ hl₅ hs₅ => ?_
          obtain ⟨n5, e5⟩ := hl₅
          have kk : ∀ b o, b ≠ D → s8.heap.get? b = some o → h₅.get? b = some o := fun b o hb e => hs₅.extBut b o hb e
          refine ⟨m', hm, i + 1, ys ++ [yv], H8, its ++ [y], n5, ?_, ?_, J3, by rw [e5]; simp, hv3.append (.cons r8 .nil), J5, w8⟩
          · exact J1.turned (t' := s8.toks) kk J5 hDC (.inr hDle) (fun x c e z => by
              obtain ⟨v0, o0, ho0, hd0⟩ := I.cell x c (hcl1 x c e)
              exact notfp (Nat.le_of_eq z.symm) ho0 hDle) (fun p hp => absurd (show p ∈ ([] : List (Addr × Obj)) from hp) (by simp))
          · refine T.keep _ _ _ J2 fun b hb o e => kk b o (fun z => ?_) e
            obtain ⟨o', e'⟩ := hfo b hb
            exact notfp (Nat.le_of_eq z.symm) e' hDle
    · exact ⟨0, [], H2, [], _, I₁, hst₁, fun b hb => (f2 b hb).1, hacc.choose_spec, .nil, I.hok.fresh hDle, w0⟩
  subst hD
  exact codeAny_compStart_list (loop _ rfl) (T.self _ 0 _ _ _ hst₁ (loop _ rfl))
end
end L2

set_option Elab.async false
set_option linter.all false
set_option maxRecDepth 100000
namespace L2
open PySem PySem.Spec PyProof.Rows
section
variable {X : Cx} {sc : Scope} {own : List Str} {cap : List Nat}
theorem free_cells {pins : List (Addr × Obj)} {σ : St} {H : Hp} {s : Shared} (I : Inv X pins σ H s) (hfr : ∀ y ∈ sc.names, y.2 = .free → X.env.kindOf y.1 = some .cell ∨ X.env.kindOf y.1 = some .free) :
    ∃ cl : List (Str × Addr), closureFor sc X.env = pure cl ∧ (∀ x c, cl.lookup x = some c → X.env.cells.lookup x = some c) ∧ (∀ x, (x, NameKind.free) ∈ sc.names → ∃ c, cl.lookup x = some c) :=
  closure_ok fun x hx => I.ok.has x (hfr _ hx rfl)

/-- [elt for tg in iter if ..] -/
theorem pe_comp {tg elt iter : Expr} {ifs : List Expr} {pos : Pos} {wi : TI} {g : TG} {tt : TT} {te : TE} (own : List Str) (cap : List Nat) (hc : X.calm = true) (hi : PI X tg iter wi)
    (hg : ∀ cl C fp s H, PG (X.inC sc cl C (NC X own cap) fp s H) tg g) (ht : ∀ cl C fp s H, PIf (X.inC sc cl C (NC X own cap) fp s H) ifs tt) (he : ∀ cl C fp s H, PE (X.inC sc cl C (NC X own cap) fp s H) elt te)
    (hcap : Caps X sc cap) (hkind : sc.kind = .function := by rfl) (hcell : ∀ y ∈ sc.names, y.2 ≠ .cell := by decide +kernel)
    (hfr : ∀ y ∈ sc.names, y.2 = .free → X.env.kindOf y.1 = some .cell ∨ X.env.kindOf y.1 = some .free := by decide +kernel)
    (hnames : ∀ x ∈ sc.names, x.2 = .local → sc.names.lookup x.1 = some .local := by decide +kernel) (hs : ∀ x, foldedSetIterable iter X.env x = pure x := by intro _; rfl) :
    PE X (.ListComp elt [⟨tg, iter, ifs, 0⟩] sc pos) (tComp own.length cap wi g tt te) := by
  intro pins s σ H Q I h
  obtain ⟨cl, hclos, hcl1, hcl2⟩ := free_cells I hfr
  rw [eval_ListComp]
  refine wpAny_comprehension_free (use := none) rfl hs hclos hkind hnames (thn (hi pins s σ H _ I h) fun v s1 h1 => thn h1 fun itv s2 h2 => ?_)
  obtain ⟨it, fp, tn, J, H2, e, I2, T, st2, f2, hw⟩ := h2
  subst e
  refine comp_core (RR := fun acc C => compPost (model X.prog X.w) X.A X.xe none (EP X pins σ Q) acc C) (Post := Q) hc I2 T st2 f2 hkind hcl1 hcl2 hcell hcap hg ht he hw ?_
  intro D C H' s' I' hm fC hD q
  obtain ⟨m, hn⟩ := hm
  refine ⟨m, hn, fun h' hs' => ?_⟩
  obtain ⟨f0, f1, f2', f3, f4, f5⟩ := fC
  refine ⟨.ref D, H', ?_, rfl, q⟩
  exact I'.turned (t' := s'.toks) (fun b o hb e => hs'.extBut b o hb e) f0 f1 f3 f4 f5

end
end L2

set_option Elab.async false
set_option linter.all false
set_option maxRecDepth 100000
/-! DATA that a value stands for (own work) -/
namespace L2
open PySem PySem.Spec PyProof.Rows

inductive D where
  | non | bl (b : Bool) | int (i : Int) | str (x : Str) | lst (ds : List D) | tup (ds : List D) | dct (es : List (Key × D))

mutual
inductive Rep (K : PySem.W.Frag) (H : Hp) : V → D → Prop
  | non : Rep K H .non .non
  | bl (b : Bool) : Rep K H (.bl b) (.bl b)
  | int (i : Int) : Rep K H (.int i) (.int i)
  | str (x : Str) : Rep K H (.str x) (.str x)
  | lst {a : Addr} {xs : List V} {ds : List D} : SqL K H a xs → Reps K H xs ds → Rep K H (.ref a) (.lst ds)
  | tup {a : Addr} {xs : List V} {ds : List D} : SqT K H a xs → Reps K H xs ds → Rep K H (.ref a) (.tup ds)
  | dct {a : Addr} {kvs : List (Key × V)} {es : List (Key × D)} : Rd H a (.dK kvs) → RepD K H kvs es → Rep K H (.ref a) (.dct es)
inductive Reps (K : PySem.W.Frag) (H : Hp) : List V → List D → Prop
  | nil : Reps K H [] []
  | cons {x : V} {d : D} {xs : List V} {ds : List D} : Rep K H x d → Reps K H xs ds → Reps K H (x :: xs) (d :: ds)
inductive RepD (K : PySem.W.Frag) (H : Hp) : List (Key × V) → List (Key × D) → Prop
  | nil : RepD K H [] []
  | cons {k : Key} {x : V} {d : D} {xs : List (Key × V)} {ds : List (Key × D)} : Rep K H x d → RepD K H xs ds → RepD K H ((k, x) :: xs) ((k, d) :: ds)
end

/-- what can be read stays to be read (a dict may be held fast or let go) -/
structure Sm (H H' : Hp) : Prop where
  lst : ∀ a xs, Rd H a (.lst xs) → Rd H' a (.lst xs)
  tup : ∀ a xs, Rd H a (.tup xs) → Rd H' a (.tup xs)
  dK : ∀ a kvs, Rd H a (.dK kvs) → Rd H' a (.dK kvs)
theorem Sm.refl (H : Hp) : Sm H H := ⟨fun _ _ h => h, fun _ _ h => h, fun _ _ h => h⟩
theorem Sm.trans {H H1 H2 : Hp} (a : Sm H H1) (b : Sm H1 H2) : Sm H H2 := ⟨fun c x h => b.lst c x (a.lst c x h), fun c x h => b.tup c x (a.tup c x h), fun c x h => b.dK c x (a.dK c x h)⟩
theorem Same.sm {H H' : Hp} (e : Same H H') : Sm H H' :=
  ⟨fun a xs h => h.elim (fun q => .inl (e _ _ q)) fun ⟨o, q⟩ => .inr ⟨o, e _ _ q⟩, fun a xs h => h.elim (fun q => .inl (e _ _ q)) fun ⟨o, q⟩ => .inr ⟨o, e _ _ q⟩, fun a xs h => h.elim (fun q => .inl (e _ _ q)) fun ⟨o, q⟩ => .inr ⟨o, e _ _ q⟩⟩
theorem Same.updN {H : Hp} {p : Addr} {o : HO} (h : H p = none) : Same H (upd H p o) := fun b u e => by rw [upd_ne (ne_of_none e h)]; exact e
theorem Same.upd {H H' : Hp} {p : Addr} {o : HO} (s : Same H H') (h : H p = none) : Same H (upd H' p o) := fun b u e => by rw [upd_ne (ne_of_none e h)]; exact s b u e

section
variable {K : PySem.W.Frag} {H H' : Hp}
theorem Sm.sqL (e : Sm H H') {a : Addr} {xs : List V} (h : SqL K H a xs) : SqL K H' a xs := by
  rcases h with h | h
  · exact .inl (e.lst a xs h)
  · exact .inr h
theorem Sm.sqT (e : Sm H H') {a : Addr} {xs : List V} (h : SqT K H a xs) : SqT K H' a xs := by
  rcases h with h | h
  · exact .inl (e.tup a xs h)
  · exact .inr h
mutual
theorem Rep.sm (e : Sm H H') : ∀ {x : V} {d : D}, Rep K H x d → Rep K H' x d
  | _, _, .non => .non
  | _, _, .bl b => .bl b
  | _, _, .int i => .int i
  | _, _, .str x => .str x
  | _, _, .lst h r => .lst (e.sqL h) (Reps.sm e r)
  | _, _, .tup h r => .tup (e.sqT h) (Reps.sm e r)
  | _, _, .dct h r => .dct (e.dK _ _ h) (RepD.sm e r)
theorem Reps.sm (e : Sm H H') : ∀ {x : List V} {d : List D}, Reps K H x d → Reps K H' x d
  | _, _, .nil => .nil
  | _, _, .cons h r => .cons (Rep.sm e h) (Reps.sm e r)
theorem RepD.sm (e : Sm H H') : ∀ {x : List (Key × V)} {d : List (Key × D)}, RepD K H x d → RepD K H' x d
  | _, _, .nil => .nil
  | _, _, .cons h r => .cons (Rep.sm e h) (RepD.sm e r)
end
theorem Reps.length {xs : List V} {ds : List D} : Reps K H xs ds → xs.length = ds.length
  | .nil => rfl
  | .cons _ r => by rw [List.length_cons, List.length_cons, r.length]
theorem RepD.length {xs : List (Key × V)} {ds : List (Key × D)} : RepD K H xs ds → xs.length = ds.length
  | .nil => rfl
  | .cons _ r => by rw [List.length_cons, List.length_cons, r.length]
theorem Reps.get : ∀ {xs : List V} {ds : List D} {i : Nat} {d : D}, Reps K H xs ds → ds[i]? = some d → ∃ x, xs[i]? = some x ∧ Rep K H x d
  | _, _, _, _, .nil, e => by simp at e
  | _, _, 0, _, .cons h _, e => by simp at e; subst e; exact ⟨_, rfl, h⟩
  | _, _, i + 1, d, .cons _ r, e => by
    obtain ⟨x, h1, h2⟩ := Reps.get (i := i) (d := d) r (by simpa using e)
    exact ⟨x, by simpa using h1, h2⟩
theorem Reps.get' : ∀ {xs : List V} {ds : List D} {i : Nat} {x : V}, Reps K H xs ds → xs[i]? = some x → ∃ d, ds[i]? = some d ∧ Rep K H x d
  | _, _, _, _, .nil, e => by simp at e
  | _, _, 0, _, .cons h _, e => by simp at e; subst e; exact ⟨_, rfl, h⟩
  | _, _, i + 1, d, .cons _ r, e => by
    obtain ⟨x, h1, h2⟩ := Reps.get' (i := i) (x := d) r (by simpa using e)
    exact ⟨x, by simpa using h1, h2⟩
theorem Reps.append : ∀ {xs ys : List V} {ds es : List D}, Reps K H xs ds → Reps K H ys es → Reps K H (xs ++ ys) (ds ++ es)
  | _, _, _, _, .nil, s => s
  | _, _, _, _, .cons r t, s => .cons r (Reps.append t s)
theorem Reps.one {x : V} {d : D} (h : Rep K H x d) : Reps K H [x] [d] := .cons h .nil
theorem Reps.take : ∀ {xs : List V} {ds : List D} (n : Nat), Reps K H xs ds → Reps K H (xs.take n) (ds.take n)
  | _, _, 0, _ => .nil
  | _, _, _ + 1, .nil => .nil
  | _, _, n + 1, .cons r t => .cons r (Reps.take n t)
theorem Reps.drop : ∀ {xs : List V} {ds : List D} (n : Nat), Reps K H xs ds → Reps K H (xs.drop n) (ds.drop n)
  | _, _, 0, r => r
  | _, _, _ + 1, .nil => .nil
  | _, _, n + 1, .cons _ t => Reps.drop n t
theorem Reps.eraseIdx : ∀ {xs : List V} {ds : List D} (n : Nat), Reps K H xs ds → Reps K H (xs.eraseIdx n) (ds.eraseIdx n)
  | _, _, _, .nil => .nil
  | _, _, 0, .cons _ t => t
  | _, _, n + 1, .cons r t => .cons r (Reps.eraseIdx n t)
/-- flat data: the value is written -/
theorem Reps.strs {ss : List Str} : Reps K H (ss.map V.str) (ss.map D.str) := by
  induction ss with
  | nil => exact .nil
  | cons x r ih => exact .cons (.str x) ih
theorem Reps.ints {ss : List Int} : Reps K H (ss.map V.int) (ss.map D.int) := by
  induction ss with
  | nil => exact .nil
  | cons x r ih => exact .cons (.int x) ih
theorem RepD.get : ∀ {xs : List (Key × V)} {ds : List (Key × D)} {k : Key} , RepD K H xs ds →
    (∀ d, (ds.find? fun e => decide (e.1 = k)).map (·.2) = some d → ∃ x, valV xs k = some x ∧ Rep K H x d) ∧ ((ds.find? fun e => decide (e.1 = k)) = none → valV xs k = none)
  | _, _, _, .nil => ⟨fun d e => (by cases e), fun _ => rfl⟩
  | _, _, k, .cons (k := k0) h r => by
    obtain ⟨i1, i2⟩ := RepD.get (k := k) r
    by_cases e : k0 = k
    · subst e
      refine ⟨fun d ed => ?_, fun ed => ?_⟩
      · simp at ed
        subst ed
        exact ⟨_, by simp [valV], h⟩
      · simp at ed
    · refine ⟨fun d ed => ?_, fun ed => ?_⟩
      · rw [List.find?_cons, decide_eq_false e] at ed
        obtain ⟨x, h1, h2⟩ := i1 d ed
        exact ⟨x, by unfold valV; rw [List.find?_cons, decide_eq_false e]; exact h1, h2⟩
      · rw [List.find?_cons, decide_eq_false e] at ed
        unfold valV; rw [List.find?_cons, decide_eq_false e]; exact i2 ed
theorem RepD.keys {xs : List (Key × V)} {ds : List (Key × D)} : RepD K H xs ds → xs.map (·.1) = ds.map (·.1)
  | .nil => rfl
  | .cons _ r => by rw [List.map_cons, List.map_cons, r.keys]
end
end L2

set_option Elab.async false
set_option linter.all false
set_option maxRecDepth 100000
/-! EQUALITY of data, where it holds (own work) -/
namespace L2
open PySem PySem.Spec PyProof.Rows PySem.SeqAt

def EqIn (P : Program) (w : World) (A : Around) (s : Shared) (y x : Value) (b : Bool) : Prop :=
  ∀ (E : Value → Shared → Prop) (Q : Bool → Shared → Prop), Q b s → wpAny (model P w) A (eqBool y x) Q E s
theorem EqIn.of {P : Program} {w : World} {A : Around} {s : Shared} {y x : Value} {b : Bool} (h : EqAt A s y x b) : EqIn P w A s y x b := fun E Q q => h P w E Q q

/- data without dicts; how deep -/
mutual
def D.flat : D → Bool
  | .dct _ => false
  | .lst ds => D.flats ds
  | .tup ds => D.flats ds
  | _ => true
def D.flats : List D → Bool
  | [] => true
  | d :: r => d.flat && D.flats r
end
mutual
def D.dep : D → Nat
  | .dct es => D.depD es + 1
  | .lst ds => D.deps ds + 1
  | .tup ds => D.deps ds + 1
  | _ => 0
def D.deps : List D → Nat
  | [] => 0
  | d :: r => max d.dep (D.deps r)
def D.depD : List (Key × D) → Nat
  | [] => 0
  | (_, d) :: r => max d.dep (D.depD r)
end
theorem D.flats_get : ∀ {ds : List D} {i : Nat} {d : D}, D.flats ds = true → ds[i]? = some d → d.flat = true
  | [], _, _, _, e => by simp at e
  | d :: r, 0, _, h, e => by simp at e; subst e; simp [D.flats] at h; exact h.1
  | _ :: r, i + 1, _, h, e => by simp [D.flats] at h; exact D.flats_get h.2 (by simpa using e)
theorem D.deps_get : ∀ {ds : List D} {i : Nat} {d : D}, ds[i]? = some d → d.dep ≤ D.deps ds
  | [], _, _, e => by simp at e
  | d :: r, 0, _, e => by simp at e; subst e; simp only [D.deps]; omega
  | _ :: r, i + 1, d, e => by
    have := D.deps_get (ds := r) (i := i) (d := d) (by simpa using e)
    simp only [D.deps]
    omega

section
variable {X : Cx} {pins : List (Addr × Obj)} {σ : St} {H : Hp} {s : Shared}
theorem all_range_true (n : Nat) : (List.range n).all (fun _ => true) = true := by simp
theorem RelV.eqAt_flat {x : V} {u v : Value} (A : Around) (r : RelV x u) (q : RelV x v) (f : flatV x = true) : EqAt A s u v true := by
  have h := eqAt_V (A := A) (s := s) r q f f
  have e : eqV x x = true := by cases x <;> first | exact absurd (show false = true from f) Bool.false_ne_true | rfl | (simp [eqV]; done)
  rw [e] at h
  exact h
/-- two things that stand for the same data without dicts are equal -/
theorem rep_eqAt (I : Inv X pins σ H s) : ∀ (d : D) {x y : V} {u v : Value} {A : Around}, d.flat = true → A.units + d.dep < cLine → Rep X.K H x d → Rep X.K H y d → RelV x u → RelV y v → EqAt A s u v true ∧ (∀ a b, u = .ref a → v = .ref b → RcAt A s u v true ∧ RcNeAt A s u v false)
  | .non, x, y, u, v, A, _, _, r1, r2, e1, e2 => by cases r1; cases r2; exact ⟨RelV.eqAt_flat A e1 e2 rfl, fun a b h _ => by cases e1; cases h⟩
  | .bl _, x, y, u, v, A, _, _, r1, r2, e1, e2 => by cases r1; cases r2; exact ⟨RelV.eqAt_flat A e1 e2 rfl, fun a b h _ => by cases e1; cases h⟩
  | .int _, x, y, u, v, A, _, _, r1, r2, e1, e2 => by cases r1; cases r2; exact ⟨RelV.eqAt_flat A e1 e2 rfl, fun a b h _ => by obtain ⟨t, rfl⟩ := e1; cases h⟩
  | .str _, x, y, u, v, A, _, _, r1, r2, e1, e2 => by cases r1; cases r2; exact ⟨RelV.eqAt_flat A e1 e2 rfl, fun a b h _ => by obtain ⟨t, rfl⟩ := e1; cases h⟩
  | .dct _, _, _, _, _, _, f, _, _, _, _, _ => by cases f
  | .lst ds, x, y, u, v, A, f, hu, r1, r2, e1, e2 => by
    cases r1 with
    | lst q1 p1 =>
    cases r2 with
    | lst q2 p2 =>
    cases e1; cases e2
    rename_i a1 xs1 a2 xs2
    obtain ⟨i1, v1, l1, _⟩ := I.list q1
    obtain ⟨i2, v2, l2, _⟩ := I.list q2
    have n1 := p1.length; have n2 := p2.length; have m1 := v1.length; have m2 := v2.length
    have hd : A.units + (D.deps ds + 1) < cLine := hu
    have ie : ∀ j (h1 : j < i1.toArray.size) (h2 : j < i2.toArray.size), EqAt A.in1 s i1.toArray[j] i2.toArray[j] true := fun j h1 h2 => by
      have h1' : j < i1.length := by simpa using h1
      have h2' : j < i2.length := by simpa using h2
      have hj : j < ds.length := by omega
      have eds : ds[j]? = some ds[j] := List.getElem?_eq_getElem hj
      obtain ⟨y1, g1, w1⟩ := p1.get eds
      obtain ⟨y2, g2, w2⟩ := p2.get eds
      obtain ⟨u1, k1, z1⟩ := v1.get g1
      obtain ⟨u2, k2, z2⟩ := v2.get g2
      have c1 : i1.toArray[j] = u1 := by simpa [List.getElem?_eq_getElem h1'] using k1
      have c2 : i2.toArray[j] = u2 := by simpa [List.getElem?_eq_getElem h2'] using k2
      rw [c1, c2]
      have hdep := D.deps_get eds
      exact (rep_eqAt I ds[j] (A := A.in1) (D.flats_get f eds) (by show A.units + 1 + _ < cLine; omega) w1 w2 z1 z2).1
    have rc := RcAt.lists (A := A) (e := fun _ => true) l1.isList l2.isList (by simp; omega) (by omega) ie
    have rn := RcNeAt.lists (A := A) (e := fun _ => true) l1.isList l2.isList (by simp; omega) (by omega) ie
    rw [all_range_true] at rc rn
    refine ⟨?_, fun _ _ _ _ => ⟨rc, rn⟩⟩
    by_cases e : a1 = a2
    · subst e; exact EqAt.same _
    · exact EqAt.of_refs e rc
  | .tup ds, x, y, u, v, A, f, hu, r1, r2, e1, e2 => by
    cases r1 with
    | tup q1 p1 =>
    cases r2 with
    | tup q2 p2 =>
    cases e1; cases e2
    rename_i a1 xs1 a2 xs2
    obtain ⟨i1, v1, l1, _⟩ := I.tuple q1
    obtain ⟨i2, v2, l2, _⟩ := I.tuple q2
    have n1 := p1.length; have n2 := p2.length; have m1 := v1.length; have m2 := v2.length
    have hd : A.units + (D.deps ds + 1) < cLine := hu
    have ie : ∀ j (h1 : j < i1.toArray.size) (h2 : j < i2.toArray.size), EqAt A.in1 s i1.toArray[j] i2.toArray[j] true := fun j h1 h2 => by
      have h1' : j < i1.length := by simpa using h1
      have h2' : j < i2.length := by simpa using h2
      have hj : j < ds.length := by omega
      have eds : ds[j]? = some ds[j] := List.getElem?_eq_getElem hj
      obtain ⟨y1, g1, w1⟩ := p1.get eds
      obtain ⟨y2, g2, w2⟩ := p2.get eds
      obtain ⟨u1, k1, z1⟩ := v1.get g1
      obtain ⟨u2, k2, z2⟩ := v2.get g2
      have c1 : i1.toArray[j] = u1 := by simpa [List.getElem?_eq_getElem h1'] using k1
      have c2 : i2.toArray[j] = u2 := by simpa [List.getElem?_eq_getElem h2'] using k2
      rw [c1, c2]
      have hdep := D.deps_get eds
      exact (rep_eqAt I ds[j] (A := A.in1) (D.flats_get f eds) (by show A.units + 1 + _ < cLine; omega) w1 w2 z1 z2).1
    have t1 : s.heap.IsTuple a1 i1.toArray := l1
    have t2 : s.heap.IsTuple a2 i2.toArray := l2
    have rc := RcAt.tuples (A := A) (e := fun _ => true) t1 t2 (by omega) ie
    have rn := RcNeAt.tuples (A := A) (e := fun _ => true) t1 t2 (by omega) ie
    have sz : (i1.toArray.size == i2.toArray.size) = true := by simp; omega
    rw [all_range_true, sz] at rc rn
    refine ⟨?_, fun _ _ _ _ => ⟨rc, rn⟩⟩
    by_cases e : a1 = a2
    · subst e; exact EqAt.same _
    · exact EqAt.of_refs e rc
termination_by d => sizeOf d
decreasing_by
  all_goals simp_wf
  all_goals (have := List.sizeOf_lt_of_mem (List.getElem_mem hj); omega)
end
end L2

set_option Elab.async false
set_option linter.all false
set_option maxRecDepth 100000
namespace L2
open PySem PySem.Spec PyProof.Rows PySem.SeqAt

section
variable {P : Program} {w : World} {κ : Type} [DecidableEq κ] {kd : KeyKind P w κ} {A : Around} {E : Value → Shared → Prop} {s : Shared}
/-- every pair of the one has its like in the other -/
def Likes (P : Program) (w : World) (A : Around) (s : Shared) (qs ps : List (κ × Value)) : Prop := ∀ k v, (k, v) ∈ ps → ∃ y, valueAt qs k = some y ∧ EqIn P w A s v y true
theorem pairs_alike {nm : String} {p q : Addr} {ps qs : List (κ × Value)} {Q : Bool → Shared → Prop} (np : (p == sysModules) = false) (nq : (q == sysModules) = false) (dp : s.heap.DictOf kd p ps) (dq : s.heap.DictOf kd q qs)
    (hl : ps.length = qs.length) (hk : Likes P w A s qs ps) (h : Q true s) : wpAny (model P w) A (Builtin.Dict.samePairs nm p q) Q E s := by
  obtain ⟨o1, e1, n1, g1, _, d1, k1, r1, _⟩ := dp
  obtain ⟨o2, e2, n2, g2, _, d2, k2, r2, _⟩ := dq
  have l1 : ps.length = e1.size := (r1.length).symm.trans Array.length_toList
  have l2 : qs.length = e2.size := (r2.length).symm.trans Array.length_toList
  have look : ∀ k, findBy kd.is e2 k = valueAt qs k := fun k => by
    have := r2.find k
    rw [← this]
    clear this l2 r2 k2 d2 g2
    obtain ⟨l⟩ := e2
    simp [findBy]
  have sz : e1.size = e2.size := by omega
  unfold Builtin.Dict.samePairs Builtin.Dict.showsAll
  have np' : ¬ (p == sysModules) = true := by rw [np]; decide
  have nq' : ¬ (q == sysModules) = true := by rw [nq]; decide
  rw [if_neg np', if_neg nq']
  refine wpAny_bind (wpAny_pure (wpAny_bind (wpAny_pure (wpAny_bind (wpAny_dictEntries g1 d1 ?_)))))
  dsimp only
  refine wpAny_bind (wpAny_dictEntries g2 d2 ?_)
  rw [if_neg (by rw [sz]; simp)]
  refine wpAny_bind (wpAny_dictEpoch g1 d1 (wpAny_bind ?_))
  rw [Std.Legacy.Range.forIn_eq_forIn_range']
  simp only [Std.Legacy.Range.size, Nat.sub_zero, Nat.add_sub_cancel, Nat.div_one]
  refine wpAny_forIn_list _ (fun rest t s' => s' = s ∧ t = (none, ()) ∧ ∃ i, rest = List.range' i (e1.size - i) ∧ i ≤ e1.size) _ ?_ ?_ _ _ ⟨rfl, rfl, 0, by simp, Nat.zero_le _⟩
  · rintro x rest t s' ⟨rfl, rfl, i, hr, hi⟩
    have lt : i < e1.size := Nat.lt_of_not_le fun z => by rw [Nat.sub_eq_zero_of_le z] at hr; simp at hr
    have es : e1.size - i = (e1.size - (i + 1)) + 1 := by omega
    rw [es, List.range'_succ] at hr
    injection hr with hx hrest
    subst hx
    refine wpAny_bind (wpAny_dictEntries g1 d1 ?_)
    rw [Array.getElem?_eq_getElem lt]
    have lt' : x < ps.length := by omega
    have gp : ps[x]? = some ps[x] := List.getElem?_eq_getElem lt'
    obtain ⟨hkey, hval⟩ := r1.get? (i := x) (e := e1[x]) (k := ps[x].1) (v := ps[x].2) (by rw [Array.getElem?_toList]; exact Array.getElem?_eq_getElem lt) gp
    obtain ⟨k', hk', hh⟩ := k1 e1[x] (Array.getElem_mem lt)
    have ek : k' = ps[x].1 := kd.inj _ _ _ hk' hkey
    subst ek
    obtain ⟨y, hy, heq⟩ := hk ps[x].1 ps[x].2 (List.getElem_mem lt')
    show wpAny _ _ (holding [e1[x].key, e1[x].val] _ >>= _) _ _ _
    rw [hh]
    refine wpAny_bind (wpAny_holding (wpAny_bind (wpAny_dictFind_of hkey g2 d2 k2 ?_)))
    have fy := (look ps[x].1).trans hy
    rw [findBy_of_findIdx?] at fy
    cases hj : e2.findIdx? fun e => kd.is ps[x].1 e.key with
    | none => rw [hj] at fy; cases fy
    | some j =>
      obtain ⟨jl, _, _⟩ := Array.findIdx?_eq_some_iff_getElem.mp hj
      have ev : e2[j].val = y := by
        rw [hj] at fy
        simpa [Array.getElem?_eq_getElem jl] using fy
      refine wpAny_bind (wpAny_dictEntries g2 d2 ?_)
      rw [Array.getElem?_eq_getElem jl]
      rw [← ev, ← hval] at heq
      refine wpAny_holding (heq _ _ ?_)
      show wpAny _ _ (if (!true) = true then _ else _) _ _ _
      rw [if_neg (by decide)]
      refine wpAny_bind (wpAny_dictEpoch g1 d1 ?_)
      rw [if_neg (by simp)]
      exact wpAny_pure ⟨rfl, rfl, x + 1, hrest, lt⟩
  · rintro t s' ⟨rfl, rfl, _⟩
    exact wpAny_pure h
theorem dict_slot2 {f : String} {p q : Addr} {qs : List (κ × Value)} {R : Value × Value → Shared → Prop} (tp : s.TypeIs (.ref p) "dict") (h : R (.ref p, .ref q) s) : wpAny (model P w) A (Builtin.Dict.dictSlotArgs f ⟨[.ref p, .ref q], []⟩) R E s := by
  unfold Builtin.Dict.dictSlotArgs
  refine wpAny_bind (wpAny_notOrdered_dict tp ?_)
  exact wpAny_pure h
theorem dict_eq_true {p q : Addr} {ps qs : List (κ × Value)} {Q : Value → Shared → Prop} (np : (p == sysModules) = false) (nq : (q == sysModules) = false) (dp : s.heap.DictOf kd p ps) (dq : s.heap.DictOf kd q qs) (hu : A.units < cLine)
    (hl : ps.length = qs.length) (hk : Likes P w A.in1 s qs ps) (h : Q (.bool true) s) : wpAny (model P w) A (compareOp .Eq (.ref p) (.ref q)) Q E s := by
  refine wpAny_richCompare_same_room (op := .Eq) dp.typeIs dq.typeIs PySem.F.slot_dict_eq (wpAny_call_entry PySem.F.slot_dict_eq dp.typeIs PySem.F.entry_dict_eq ?_ (PySem.F.args_dict_eq_2 _ _)) hu
  show wpAny _ _ (Builtin.Dict.dictSlotArgs "__eq__" ⟨[.ref p, .ref q], []⟩ >>= _) _ _ s
  refine wpAny_bind (dict_slot2 (qs := qs) dp.typeIs (wpAny_bind (wpAny_isInstance (T := "dict") dq.typeIs PySem.F.sub_dict_dict ?_)))
  simp only [Bool.not_true, Bool.false_eq_true, if_false]
  exact wpAny_bind (wpAny_pure (wpAny_bind (wpAny_pure (wpAny_bind (pairs_alike np nq dp dq hl hk (wpAny_pure ⟨_, rfl, (fun x => nomatch x), h⟩))))))
theorem dict_ne_false {p q : Addr} {ps qs : List (κ × Value)} {Q : Value → Shared → Prop} (np : (p == sysModules) = false) (nq : (q == sysModules) = false) (dp : s.heap.DictOf kd p ps) (dq : s.heap.DictOf kd q qs) (hu : A.units < cLine)
    (hl : ps.length = qs.length) (hk : Likes P w A.in1 s qs ps) (h : Q (.bool false) s) : wpAny (model P w) A (compareOp .NotEq (.ref p) (.ref q)) Q E s := by
  refine wpAny_richCompare_same_room (op := .NotEq) dp.typeIs dq.typeIs PySem.F.slot_dict_ne (wpAny_call_entry PySem.F.slot_dict_ne dp.typeIs PySem.F.entry_dict_ne ?_ (PySem.F.args_dict_ne_2 _ _)) hu
  show wpAny _ _ (Builtin.Dict.dictSlotArgs "__ne__" ⟨[.ref p, .ref q], []⟩ >>= _) _ _ s
  refine wpAny_bind (dict_slot2 (qs := qs) dp.typeIs (wpAny_bind (wpAny_isInstance (T := "dict") dq.typeIs PySem.F.sub_dict_dict ?_)))
  simp only [Bool.not_true, Bool.false_eq_true, if_false]
  exact wpAny_bind (wpAny_pure (wpAny_bind (wpAny_pure (wpAny_bind (pairs_alike np nq dp dq hl hk (wpAny_pure ⟨_, rfl, (fun x => nomatch x), h⟩))))))
end
end L2

set_option Elab.async false
set_option linter.all false
set_option maxRecDepth 100000
namespace L2
open PySem PySem.Spec PyProof.Rows PySem.SeqAt
def lookD (es : List (Key × D)) (k : Key) : Option D := (es.find? fun e => decide (e.1 = k)).map (·.2)
/-- equal as Python says it: dicts in any order -/
inductive DEq : D → D → Prop
  | same {d : D} : d.flat = true → DEq d d
  | dct {es fs : List (Key × D)} (f : Key → D) : es.length = fs.length → (∀ k d, (k, d) ∈ es → lookD fs k = some (f k)) → (∀ k d, (k, d) ∈ es → DEq d (f k)) → DEq (.dct es) (.dct fs)
theorem D.depD_mem : ∀ {es : List (Key × D)} {k : Key} {d : D}, (k, d) ∈ es → d.dep ≤ D.depD es
  | [], _, _, h => by simp at h
  | (k0, d0) :: r, k, d, h => by
    simp only [D.depD]
    rcases List.mem_cons.mp h with e | e
    · cases e; omega
    · have := D.depD_mem e; omega
section
variable {K : PySem.W.Frag} {X : Cx} {pins : List (Addr × Obj)} {σ : St} {H : Hp} {s : Shared}
theorem RepD.mem : ∀ {xs : List (Key × V)} {ds : List (Key × D)} {k : Key} {x : V}, RepD K H xs ds → (k, x) ∈ xs → ∃ d, (k, d) ∈ ds ∧ Rep K H x d
  | _, _, _, _, .nil, h => by simp at h
  | _, _, _, _, .cons h0 r, h => by
    rcases List.mem_cons.mp h with e | e
    · cases e; exact ⟨_, List.mem_cons_self, h0⟩
    · obtain ⟨d, a, b⟩ := r.mem e; exact ⟨d, List.mem_cons_of_mem _ a, b⟩
theorem KV.mem {κ : Type} : ∀ {xs : List (κ × V)} {vs : List (κ × Value)} {k : κ} {u : Value}, KV xs vs → (k, u) ∈ vs → ∃ x, (k, x) ∈ xs ∧ RelV x u
  | _, _, _, _, .nil, h => by simp at h
  | _, _, _, _, .cons (a := a) h0 r, h => by
    rcases List.mem_cons.mp h with e | e
    · obtain ⟨e1, e2⟩ := h0
      subst e
      exact ⟨a.2, by rw [show a = (a.1, a.2) from rfl, e1]; exact List.mem_cons_self, e2⟩
    · obtain ⟨d, p, q⟩ := KV.mem (xs := _) (vs := _) r e; exact ⟨d, List.mem_cons_of_mem _ p, q⟩
theorem rep_deq (I : Inv X pins σ H s) : ∀ {d d' : D}, DEq d d' → ∀ {x y : V} {u v : Value} {A : Around}, A.units + d.dep < cLine → Rep X.K H x d → Rep X.K H y d' → RelV x u → RelV y v →
    EqIn X.prog X.w A s u v true ∧ (∀ a b, u = .ref a → v = .ref b → ∀ (E : Value → Shared → Prop) (Q : Value → Shared → Prop), (Q (.bool true) s → wpAny (model X.prog X.w) A (compareOp .Eq u v) Q E s) ∧ (Q (.bool false) s → wpAny (model X.prog X.w) A (compareOp .NotEq u v) Q E s)) := by
  intro d d' h
  induction h with
  | same f =>
    intro x y u v A hu r1 r2 e1 e2
    obtain ⟨a1, a2⟩ := rep_eqAt I _ f hu r1 r2 e1 e2
    exact ⟨EqIn.of a1, fun a b h1 h2 E Q => ⟨fun q => (a2 a b h1 h2).1 _ _ _ _ q, fun q => (a2 a b h1 h2).2 _ _ _ _ q⟩⟩
  | @dct es fs f hl hlook hd ih =>
    intro x y u v A hu r1 r2 e1 e2
    cases r1 with
    | dct q1 p1 =>
    cases r2 with
    | dct q2 p2 =>
    cases e1; cases e2
    rename_i a1 k1 a2 k2
    obtain ⟨z1, m1, v1, w1, o1⟩ := dk_rd I.hok q1
    obtain ⟨z2, m2, v2, w2, o2⟩ := dk_rd I.hok q2
    have hu' : A.units + (D.depD es + 1) < cLine := hu
    have len : v1.length = v2.length := by
      have := p1.length; have := p2.length; have := Paired.length w1; have := Paired.length w2; omega
    have lk : Likes X.prog X.w A.in1 s v2 v1 := fun k u hm => by
      obtain ⟨x, hx, rx⟩ := KV.mem w1 hm
      obtain ⟨d, hd1, rd⟩ := p1.mem hx
      have hf := hlook k d hd1
      obtain ⟨g1, _⟩ := p2.get (k := k)
      obtain ⟨y, hy, ry⟩ := g1 (f k) hf
      have := KV.val w2 k
      rw [hy] at this
      obtain ⟨u2, e2, r2⟩ := RelO.some_of this
      refine ⟨u2, e2, (ih k d hd1 (A := A.in1) ?_ rd ry rx r2).1⟩
      have := D.depD_mem hd1
      show A.units + 1 + _ < cLine
      omega
    have key : ∀ (E : Value → Shared → Prop) (Q : Value → Shared → Prop), (Q (.bool true) s → wpAny (model X.prog X.w) A (compareOp .Eq (.ref a1) (.ref a2)) Q E s) ∧ (Q (.bool false) s → wpAny (model X.prog X.w) A (compareOp .NotEq (.ref a1) (.ref a2)) Q E s) := fun E Q =>
      ⟨fun q => dict_eq_true m1 m2 o1 o2 (by omega) len lk q, fun q => dict_ne_false m1 m2 o1 o2 (by omega) len lk q⟩
    refine ⟨fun E Q q => ?_, fun a b h1 h2 => by cases h1; cases h2; exact key⟩
    by_cases e : a1 = a2
    · subst e
      exact EqAt.same _ _ _ _ _ q
    · unfold eqBool
      refine wpAny_holding (wpAny_ite_split (fun hab => absurd (by have := eq_of_beq hab; injection this) e) (fun _ => ?_))
      exact wpAny_bind ((key E _).1 (wpAny_truthy_bool q))
end
section
variable {X : Cx}
/-- == of two things that stand for equal data -/
theorem op_eqD (hu : X.A.units + 8 < cLine) : OpR X (compareOp .Eq) (fun x y H Q => ∃ a b d d', x = .ref a ∧ y = .ref b ∧ Rep X.K H x d ∧ Rep X.K H y d' ∧ DEq d d' ∧ d.dep ≤ 8 ∧ Q (.bl true) H) := by
  rintro pins s σ H x y v u Q I rx ry ⟨a, b, d, d', rfl, rfl, r1, r2, hd, hl, q⟩
  have := rep_deq I hd (A := X.A) (by omega) r1 r2 rx ry
  cases rx; cases ry
  exact (this.2 a b rfl rfl X.xe _).1 ⟨.bl true, H, I, rfl, q⟩
theorem op_neD (hu : X.A.units + 8 < cLine) : OpR X (compareOp .NotEq) (fun x y H Q => ∃ a b d d', x = .ref a ∧ y = .ref b ∧ Rep X.K H x d ∧ Rep X.K H y d' ∧ DEq d d' ∧ d.dep ≤ 8 ∧ Q (.bl false) H) := by
  rintro pins s σ H x y v u Q I rx ry ⟨a, b, d, d', rfl, rfl, r1, r2, hd, hl, q⟩
  have := rep_deq I hd (A := X.A) (by omega) r1 r2 rx ry
  cases rx; cases ry
  exact (this.2 a b rfl rfl X.xe _).2 ⟨.bl false, H, I, rfl, q⟩
end
end L2

set_option Elab.async false
set_option linter.all false
set_option maxRecDepth 100000
/-! WALKS over dicts (own work) -/
namespace L2
open PySem PySem.Spec PyProof.Rows

section
variable {X : Cx} {pins : List (Addr × Obj)} {σ : St} {H : Hp} {s : Shared} {a : Addr} {kvs : List (Key × V)}
/-- a dict is held fast -/
theorem Inv.freeze (I : Inv X pins σ H s) (h : H a = some (.dK kvs)) : ∃ o : Obj, s.heap.get? a = some o ∧ Inv X pins σ (upd H a (.frz o (.dK kvs))) s := by
  obtain ⟨z, m, vs, rel, o, es, ep, ho, r⟩ := id (I.hok a _ h)
  have ne : ∀ {b : Addr} {u : Option HO}, H b = u → u ≠ some (.dK kvs) → b ≠ a := fun e n q => n (by rw [← e, q, h])
  refine ⟨o, ho, I.ok, I.os, I.bare, ⟨I.base.keep, I.base.slot, fun b ob e n hx => ?_, I.base.there, fun b xs e => ?_, fun b ob u e => ?_, fun b ps e => ?_⟩, I.loc, I.cell, ?_, fun x c e => ?_, fun p hp => ?_, fun b u e => ?_, I.len⟩
  · have := I.base.free b ob e n hx; rw [upd_ne (ne this (by simp))]; exact this
  · have := I.base.tups b xs e; rw [upd_ne (ne this (by simp))]; exact this
  · have := I.base.frzs b ob u e; rw [upd_ne (ne this (by simp))]; exact this
  · obtain ⟨mo, this⟩ := I.base.tbls b ps e; exact ⟨mo, by rw [upd_ne (ne this (by simp))]; exact this⟩
  · rw [upd_ne (ne I.free (by simp))]; exact I.free
  · have := I.freeC x c e; rw [upd_ne (ne this (by simp))]; exact this
  · obtain ⟨e, n, r⟩ := I.pin p hp; exact ⟨e, by rw [upd_ne (ne n (by simp))]; exact n, r⟩
  · have own : ∀ {c d : Addr}, H c = some (.own d) → upd H a (.frz o (.dK kvs)) c = some (.own d) := fun q => by rw [upd_ne (ne q (by simp))]; exact q
    have tup : ∀ {c : Addr} {xs : List V}, H c = some (.tup xs) → upd H a (.frz o (.dK kvs)) c = some (.tup xs) := fun q => by rw [upd_ne (ne q (by simp))]; exact q
    by_cases hb : b = a
    · subst hb
      rw [upd_same] at e
      cases e
      exact ⟨ho, (I.hok b _ h).stay (fun _ _ _ q => q) (fun c q => own q) (fun c xs q => tup q)⟩
    · rw [upd_ne hb] at e
      exact (I.hok b u e).stay (fun _ _ _ q => q) (fun c q => own q) (fun c xs q => tup q)
/-- .. and let go -/
theorem Inv.thaw {o : Obj} (I : Inv X pins σ H s) (h : H a = some (.frz o (.dK kvs))) (h0 : ∀ o u, X.H₀ a ≠ some (.frz o u)) : Inv X pins σ (upd H a (.dK kvs)) s := by
  have ne : ∀ {b : Addr} {u : Option HO}, H b = u → u ≠ some (.frz o (.dK kvs)) → b ≠ a := fun e n q => n (by rw [← e, q, h])
  refine ⟨I.ok, I.os, I.bare, ⟨I.base.keep, I.base.slot, fun b ob e n hx => ?_, I.base.there, fun b xs e => ?_, fun b ob u e => ?_, fun b ps e => ?_⟩, I.loc, I.cell, ?_, fun x c e => ?_, fun p hp => ?_, fun b u e => ?_, I.len⟩
  · have := I.base.free b ob e n hx; rw [upd_ne (ne this (by simp))]; exact this
  · have := I.base.tups b xs e; rw [upd_ne (ne this (by simp))]; exact this
  · have := I.base.frzs b ob u e
    rw [upd_ne (fun (q : b = a) => h0 ob u (by rw [← q]; exact e))]; exact this
  · obtain ⟨mo, this⟩ := I.base.tbls b ps e; exact ⟨mo, by rw [upd_ne (ne this (by simp))]; exact this⟩
  · rw [upd_ne (ne I.free (by simp))]; exact I.free
  · have := I.freeC x c e; rw [upd_ne (ne this (by simp))]; exact this
  · obtain ⟨e, n, r⟩ := I.pin p hp; exact ⟨e, by rw [upd_ne (ne n (by simp))]; exact n, r⟩
  · have own : ∀ {c d : Addr}, H c = some (.own d) → upd H a (.dK kvs) c = some (.own d) := fun q => by rw [upd_ne (ne q (by simp))]; exact q
    have tup : ∀ {c : Addr} {xs : List V}, H c = some (.tup xs) → upd H a (.dK kvs) c = some (.tup xs) := fun q => by rw [upd_ne (ne q (by simp))]; exact q
    by_cases hb : b = a
    · subst hb
      rw [upd_same] at e
      cases e
      exact (I.hok b _ h).2.stay (fun _ _ _ q => q) (fun c q => own q) (fun c xs q => tup q)
    · rw [upd_ne hb] at e
      exact (I.hok b u e).stay (fun _ _ _ q => q) (fun c q => own q) (fun c xs q => tup q)
theorem kV_of {k : Key} {v : Value} (h : keyIs k v = true) : RelV (kV k) v := by
  rcases keyIs_shape h with ⟨i, t, rfl, rfl⟩ | ⟨x, t, rfl, rfl⟩
  · exact ⟨t, rfl⟩
  · exact ⟨t, rfl⟩
theorem frz_at {o : Obj} (I : Inv X pins σ H s) (h : H a = some (.frz o (.dK kvs))) : (a == sysModules) = false ∧ ∃ vs ep, KV kvs vs ∧ s.heap.DictAt (mixKind X.prog X.w) a vs ep ∧ ∃ es, o.data = .dict es ep := by
  obtain ⟨ho, z, m, vs, rel, o', es, ep, ho', r⟩ := id (I.hok a _ h)
  rw [ho] at ho'
  cases ho'
  exact ⟨m, vs, ep, rel, ⟨o, es, ho, r⟩, es, r.2.1⟩
theorem KV.get {κ : Type} : ∀ {xs : List (κ × V)} {vs : List (κ × Value)} {i : Nat} {k : κ} {v : V}, KV xs vs → xs[i]? = some (k, v) → ∃ u, vs[i]? = some (k, u) ∧ RelV v u
  | _, _, _, _, _, .nil, e => by simp at e
  | _, _, 0, k, v, .cons (b := b) h _, e => by
    simp at e
    subst e
    exact ⟨b.2, by have := h.1; simp at this; subst this; rfl, h.2⟩
  | _, _, i + 1, k, v, .cons _ r, e => by
    obtain ⟨u, p, q⟩ := KV.get (i := i) (k := k) (v := v) r (by simpa using e)
    exact ⟨u, by simpa using p, q⟩
end
/-- the keys of the dict at a, which is held fast -/
def Itd (a : Addr) (o : Obj) (kvs : List (Key × V)) : It :=
  ⟨fun i H => H a = some (.frz o (.dK kvs)) ∧ i < kvs.length, fun i H x H' => H' = H ∧ ∃ k v, kvs[i]? = some (k, v) ∧ x = kV k, fun i H => H a = some (.frz o (.dK kvs)) ∧ kvs.length ≤ i⟩
/-- its values -/
def Itv (a : Addr) (o : Obj) (kvs : List (Key × V)) : It :=
  ⟨fun i H => H a = some (.frz o (.dK kvs)) ∧ i < kvs.length, fun i H x H' => H' = H ∧ ∃ k, kvs[i]? = some (k, x), fun i H => H a = some (.frz o (.dK kvs)) ∧ kvs.length ≤ i⟩
theorem keyiter_nocell {h : Heap} {it d : Addr} {i n ep : Nat} (x : h.IsKeyIter it d i n ep) : ∃ o, h.get? it = some o ∧ ∀ v, o.data ≠ .cell v := by
  obtain ⟨o, e, c, q⟩ := x
  exact ⟨o, e, fun v z => by rw [q] at z; cases z⟩
theorem turn_keys {P : Program} {w : World} {K : PySem.W.Frag} {tg : Expr} {o : Obj} {es : Array DictEntry} {ep : Nat} (a it : Addr) (kvs : List (Key × V)) (ho : o.data = .dict es ep) : Turn P w K tg (Itd a o kvs) [it] it (fun i h => h.IsKeyIter it a i kvs.length ep) where
  mem := by simp
  obj := fun i h st b hb => by
    have e : b = it := by simpa using hb
    subst e
    exact keyiter_nocell st
  keep := fun i h h' st k => st.at fun o e => k it (by simp) o e
  item := by
    intro X hP hw hK hc i pins s σ H E I hf st hg
    subst hP hw hK
    obtain ⟨hfz, hi⟩ := hg
    obtain ⟨m, vs, ep', rel, da, es', ho'⟩ := frz_at I hfz
    rw [ho] at ho'; cases ho'
    have hl := Paired.length rel
    obtain ⟨⟨k, v⟩, hx⟩ : ∃ p, kvs[i]? = some p := ⟨kvs[i], by simp [hi]⟩
    obtain ⟨u, hu, ru⟩ := KV.get rel hx
    obtain ⟨f0, f1, f2, f3, f4, f5⟩ := hf it (by simp)
    rw [hl] at st
    refine wpAny_pyNext_dict_item st da hu fun key h' hkey st' sb => ?_
    have I1 : Inv X pins σ H { s with heap := h' } := I.turned (t' := s.toks) (fun b o hb e => (sb.2 b hb).trans e) f0 f1 f3 f4 f5
    obtain ⟨o2, e2, c2, d2⟩ := id st'
    rw [← hl] at st'
    exact ⟨key, rfl, go_of (s := { s with heap := h' }) e2 c2 d2 (by decide) ⟨kV k, H, I1, kV_of hkey, ⟨rfl, k, v, hx, rfl⟩, st', fun b hb => (hf b hb).1⟩⟩
  done := by
    intro X hP hw hK hc i pins s σ H E I hf st hg
    subst hP hw hK
    obtain ⟨hfz, hi⟩ := hg
    obtain ⟨m, vs, ep', rel, da, es', ho'⟩ := frz_at I hfz
    rw [ho] at ho'; cases ho'
    have hl := Paired.length rel
    obtain ⟨f0, f1, f2, f3, f4, f5⟩ := hf it (by simp)
    rw [hl] at st
    exact wpAny_pyNext_dict_end (I.ok.hd hc) st da (by simp; omega) fun h' eb => ⟨rfl, I.turned (t' := s.toks) (fun b o hb e => eb b o hb e) f0 f1 f3 f4 f5⟩
  self := fun _ _ _ _ _ st h => wpAny_pyIter_keyiter st h

/-- H2 is H1 with the dict at a held fast -/
def Fzn (a : Addr) (o : Obj) (kvs : List (Key × V)) (H1 H2 : Hp) : Prop := H2 a = some (.frz o (.dK kvs)) ∧ (H2 = H1 ∨ (H1 a = some (.dK kvs) ∧ H2 = upd H1 a (.frz o (.dK kvs))))
def iDict (tl : TE) : TI := fun σ H R => tl σ H fun x H1 => ∃ a kvs, x = .ref a ∧ Rd H1 a (.dK kvs) ∧ ∀ o H2, Fzn a o kvs H1 H2 → R (Itd a o kvs) H2
section
variable {X : Cx} {tg : Expr}
theorem Inv.fzn {pins : List (Addr × Obj)} {σ : St} {H : Hp} {s : Shared} {a : Addr} {kvs : List (Key × V)} (I : Inv X pins σ H s) (h : Rd H a (.dK kvs)) : ∃ o H2, Fzn a o kvs H H2 ∧ Inv X pins σ H2 s := by
  rcases h with h | ⟨o, h⟩
  · obtain ⟨o, _, I2⟩ := I.freeze h
    exact ⟨o, _, ⟨upd_same, .inr ⟨h, rfl⟩⟩, I2⟩
  · exact ⟨o, H, ⟨h, .inl rfl⟩, I⟩
end

/-- what an end must give so that the dict, let go, is as wished -/
def Thw (a : Addr) (o : Obj) (kvs : List (Key × V)) (H1 H H' : Hp) : Prop := (H1 a = some (.dK kvs) ∧ H' = upd H a (.dK kvs)) ∨ (H1 a ≠ some (.dK kvs) ∧ H' = H)
def thawE (a : Addr) (o : Obj) (kvs : List (Key × V)) (H1 : Hp) (D : Ends) : Ends where
  nx := fun σ H => H a = some (.frz o (.dK kvs)) ∧ ∀ H', Thw a o kvs H1 H H' → D.nx σ H'
  rt := fun v H => H a = some (.frz o (.dK kvs)) ∧ ∀ H', Thw a o kvs H1 H H' → D.rt v H'
  bk := fun _ _ => False
  ct := fun _ _ => False
/-- a loop's condition, from its iterator on -/
def LoopVC (J : It) (g : TG) (tb : TS) (D : Ends) (σ : St) (H1 : Hp) : Prop := ∃ W : Nat → Nat → St → Hp → Prop, (∃ m, W 0 m σ H1) ∧ ∀ i m σ H, W i m σ H →
  (J.stop i H ∧ D.nx σ H) ∨ (J.go i H ∧ ∃ N : St → Hp → Prop, (∀ σ' H', N σ' H' → ∃ m', m' < m ∧ W (i + 1) m' σ' H') ∧ ∀ x H', J.yld i H x H' → g x σ H' fun σ2 H2 => tb { D with nx := N, ct := N, bk := D.nx } σ2 H2)
/-- for k in d -/
def tForD (te : TE) (g : TG) (tb : TS) : TS := fun D σ H => te σ H fun x H1 => ∃ a kvs, x = .ref a ∧ Rd H1 a (.dK kvs) ∧ ∀ o H2, Fzn a o kvs H1 H2 → LoopVC (Itd a o kvs) g tb (thawE a o kvs H1 D) σ H2
section
variable {X : Cx} {tg : Expr}
theorem SP.thaw {pins : List (Addr × Obj)} {D : Ends} {f : Flow} {s' : Shared} {a : Addr} {o : Obj} {kvs : List (Key × V)} {H1 : Hp} (h0 : H1 a = some (.dK kvs) → ∀ o u, X.H₀ a ≠ some (.frz o u)) (h : SP X pins (thawE a o kvs H1 D) f s') : SP X pins D f s' := by
  have key : ∀ {σ : St} {H : Hp}, Inv X pins σ H s' → H a = some (.frz o (.dK kvs)) → ∃ H', Inv X pins σ H' s' ∧ Thw a o kvs H1 H H' := fun {σ H} I e => by
    by_cases hc : H1 a = some (.dK kvs)
    · exact ⟨_, I.thaw e (h0 hc), .inl ⟨hc, rfl⟩⟩
    · exact ⟨H, I, .inr ⟨hc, rfl⟩⟩
  cases f with
  | next =>
    obtain ⟨σ', H', I, e, q⟩ := h
    obtain ⟨H2, I2, t⟩ := key I e
    exact ⟨σ', H2, I2, q H2 t⟩
  | ret v =>
    obtain ⟨x, σ', H', I, r, e, q⟩ := h
    obtain ⟨H2, I2, t⟩ := key I e
    exact ⟨x, σ', H2, I2, r, q H2 t⟩
  | brk => obtain ⟨_, _, _, q⟩ := h; exact q.elim
  | cont => obtain ⟨_, _, _, q⟩ := h; exact q.elim
theorem for_gen {iter : Expr} {body : List Stmt} {g : TG} {tb : TS} {pos : Pos} {pins : List (Addr × Obj)} {s : Shared} {σ : St} {D : Ends} (hp : PassesOwn (model X.prog X.w) X.A X.env X.xe) (hc : X.calm = true) (hg : PG X tg g) (hb : PSs X body tb)
    (h : wpAny (model X.prog X.w) X.A (eval iter X.env) (fun v s1 => wpAny (model X.prog X.w) X.A (pyIter v) (PIE X pins σ tg fun J H1 => ∃ D' : Ends, (∀ f s', SP X pins D' f s' → SP X pins D f s') ∧ LoopVC J g tb D' σ H1) X.xe s1) X.xe s)
    (hs : ∀ x, foldedSetIterable iter X.env x = pure x := by intro _; rfl) : wpAny (model X.prog X.w) X.A (exec (.For tg iter body [] pos) X.env) (SP X pins D) X.xe s := by
  refine wpAny_For (thn h fun v s1 h1 => thn h1 fun itv s2 h2 => ?_) hs
  obtain ⟨it, fp, tn, J, H2, e, I2, T, st2, f2, D', hD, W, ⟨m0, w0⟩, turn⟩ := h2
  subst e
  refine codeAny_mono (R := fun r s' => match r with | Except.ok f => SP X pins D' f s' | Except.error e => cameBackBy (model X.prog X.w) X.A X.env X.xe e s') ?_ (fun r s' q => by
    cases r with
    | ok f => exact hD f s' q
    | error e => exact q)
  have stat : ∀ {H' : Hp}, (∀ b ∈ fp, H' b = none) → ∀ b ∈ fp, FpOk X pins H' b := fun hn b hb => ⟨hn b hb, (f2 b hb).2⟩
  refine codeAny_forLoop_any (fun n s' => ∃ i σ' H', Inv X pins σ' H' s' ∧ tn i s'.heap ∧ (∀ b ∈ fp, H' b = none) ∧ W i n σ' H') ?_ m0 ⟨0, σ, H2, I2, st2, fun b hb => (f2 b hb).1, w0⟩
  rintro n s3 ⟨i, σ3, H3, I3, st3, fr3, w3⟩
  rcases turn i n σ3 H3 w3 with ⟨stop, qn⟩ | ⟨go, N, hN, step⟩
  · refine wpAny_passesOwn hp (thn (T.done X rfl rfl rfl hc i pins s3 σ3 H3 X.xe I3 (stat fr3) st3 stop) fun r s4 ⟨hr, I4⟩ => ?_)
    subst hr
    exact wpAny_execs_nil ⟨σ3, H3, I4, qn⟩
  · refine wpAny_passesOwn hp (thn (T.item X rfl rfl rfl hc i pins s3 σ3 H3 X.xe I3 (stat fr3) st3 go) fun r s4 ⟨u, hr, h4⟩ => ?_)
    subst hr
    refine wpAny_passesOwn hp (thn h4 fun _ s5 ⟨x, H5, I5, r5, y5, st5, fr5⟩ => ?_)
    have I5' := I5.pinned (stat fr5) (T.obj _ _ st5)
    refine wpAny_passesOwn hp (thn (hg _ s5 σ3 H5 x u _ I5' r5 (step x H5 y5)) fun _ s6 ⟨σ6, H6, I6, q6⟩ => ?_)
    refine wpAny_passesOwn hp (thn (hb _ s6 σ6 H6 _ I6 q6) fun f s7 q7 => ?_)
    have again : ∀ {σ7 : St} {H7 : Hp}, Inv X (pins ++ pinsAt fp s5.heap) σ7 H7 s7 → N σ7 H7 → ∃ m, m < n ∧ ∃ i σ' H', Inv X pins σ' H' s7 ∧ tn i s7.heap ∧ (∀ b ∈ fp, H' b = none) ∧ W i m σ' H' := fun {σ7 H7} I7 n7 => by
      obtain ⟨m', hm, w7⟩ := hN σ7 H7 n7
      refine ⟨m', hm, i + 1, σ7, H7, I7.unpinned, T.keep _ _ _ st5 fun b hb o e => (I7.pin (b, o) (List.mem_append_right _ (List.mem_append_right _ (mem_pinsAt hb e)))).1, fun b hb => ?_, w7⟩
      obtain ⟨o, e, d⟩ := T.obj _ _ st5 b hb
      exact (I7.pin (b, o) (List.mem_append_right _ (List.mem_append_right _ (mem_pinsAt hb e)))).2.1
    cases f with
    | next => obtain ⟨σ7, H7, I7, n7⟩ := q7; exact again I7 n7
    | cont => obtain ⟨σ7, H7, I7, n7⟩ := q7; exact again I7 n7
    | brk => obtain ⟨σ7, H7, I7, q7⟩ := q7; exact ⟨σ7, H7, I7.unpinned, q7⟩
    | ret v => obtain ⟨x7, σ7, H7, I7, r7, q7⟩ := q7; exact ⟨x7, σ7, H7, I7.unpinned, r7, q7⟩
/-- the iterator of a dict's keys is made -/
theorem keys_made {pins : List (Addr × Obj)} {s1 : Shared} {σ : St} {H1 : Hp} {a : Addr} {kvs : List (Key × V)} {R : It → Hp → Prop} {E : Value → Shared → Prop} (I1 : Inv X pins σ H1 s1) (hq : Rd H1 a (.dK kvs))
    (q : ∀ o H2, Fzn a o kvs H1 H2 → (H1 a = some (.dK kvs) → ∀ o u, X.H₀ a ≠ some (.frz o u)) → R (Itd a o kvs) H2) : wpAny (model X.prog X.w) X.A (pyIter (.ref a)) (PIE X pins σ tg R) E s1 := by
  obtain ⟨o, H2, fz, I2⟩ := I1.fzn hq
  obtain ⟨m, vs, ep, rel, da, es, ho⟩ := frz_at I2 fz.1
  have hlen := Paired.length rel
  refine wpAny_pyIter_dict m da ?_
  rw [← hlen]
  refine ⟨s1.heap.objs.size, [s1.heap.objs.size], _, _, H2, rfl, I2.kept (t' := s1.toks) fun b o e => Heap.get?_push_of_some _ e, turn_keys a _ kvs ho, ⟨_, Heap.get?_push_size _ rfl, rfl, rfl⟩, fun b hb => ?_, q o H2 fz (fun hd o u z => ?_)⟩
  · have e : b = s1.heap.objs.size := by simpa using hb
    subst e
    exact I2.fpOk (Nat.le_refl _) (I2.hok.fresh (Nat.le_refl _))
  · have := I1.base.frzs a o u z
    rw [hd] at this
    cases this
theorem ps_forD {iter : Expr} {body : List Stmt} {te : TE} {g : TG} {tb : TS} {pos : Pos} (hp : PassesOwn (model X.prog X.w) X.A X.env X.xe) (hc : X.calm = true) (hi : PE X iter te) (hg : PG X tg g) (hb : PSs X body tb)
    (hs : ∀ x, foldedSetIterable iter X.env x = pure x := by intro _; rfl) : PS X (.For tg iter body [] pos) (tForD te g tb) := by
  intro pins s σ H D I h
  refine for_gen (σ := σ) hp hc hg hb (thn (hi pins s σ H _ I h) fun v s1 ⟨x, H1, I1, r1, q1⟩ => ?_) hs
  obtain ⟨a, kvs, e, hr, q⟩ := q1
  subst e
  cases r1
  exact keys_made I1 hr fun o H2 fz h0 => ⟨thawE a o kvs H1 D, fun f s' => SP.thaw h0, q o H2 fz⟩

/-- all but the dict at a, which is held fast, is as in H1 -/
structure Fs (o : Obj) (a : Addr) (kvs : List (Key × V)) (H1 H : Hp) : Prop where
  rest : ∀ b ob, b ≠ a → H1 b = some ob → H b = some ob
  held : H a = some (.frz o (.dK kvs))
theorem Fs.sm {o : Obj} {a : Addr} {kvs : List (Key × V)} {H1 H : Hp} (f : Fs o a kvs H1 H) (h : Rd H1 a (.dK kvs)) : Sm H1 H := by
  have key : ∀ (b : Addr) (u : HO), (∀ z, u ≠ .frz z (.dK kvs)) → Rd H1 b u → (b = a → u = .dK kvs) → Rd H b u := fun b u _ hr hb => by
    by_cases e : b = a
    · subst e; rw [hb rfl]; exact .inr ⟨o, f.held⟩
    · rcases hr with q | ⟨z, q⟩
      · exact .inl (f.rest b _ e q)
      · exact .inr ⟨z, f.rest b _ e q⟩
  have same : ∀ {u : HO}, (∀ z y, u ≠ .frz z y) → Rd H1 a u → u = .dK kvs := fun {u} nu hr => by
    rcases hr with q | ⟨z, q⟩ <;> rcases h with q' | ⟨z', q'⟩ <;> rw [q] at q'
    · exact Option.some.inj q'
    · exact absurd (Option.some.inj q') (nu _ _)
    · cases q'
    · cases q'; rfl
  exact ⟨fun b xs hr => key b _ (by simp) hr fun e => same (by simp) (e ▸ hr), fun b xs hr => key b _ (by simp) hr fun e => same (by simp) (e ▸ hr), fun b xs hr => key b _ (by simp) hr fun e => same (by simp) (e ▸ hr)⟩
theorem Fs.of {o : Obj} {a : Addr} {kvs : List (Key × V)} {H1 H2 : Hp} (f : Fzn a o kvs H1 H2) : Fs o a kvs H1 H2 := by
  obtain ⟨h, e | ⟨e1, e2⟩⟩ := f
  · subst e; exact ⟨fun _ _ _ q => q, h⟩
  · subst e2; exact ⟨fun b ob n q => by rw [upd_ne n]; exact q, h⟩
theorem Fs.same {o : Obj} {a : Addr} {kvs : List (Key × V)} {H1 H H' : Hp} (f : Fs o a kvs H1 H) (e : Same H H') : Fs o a kvs H1 H' := ⟨fun b ob n q => e _ _ (f.rest b ob n q), e _ _ f.held⟩
theorem Fs.upd {o : Obj} {a l : Addr} {u : HO} {kvs : List (Key × V)} {H1 H : Hp} (f : Fs o a kvs H1 H) (h1 : H1 l = none) (h2 : l ≠ a) : Fs o a kvs H1 (L2.upd H l u) :=
  ⟨fun b ob n q => by rw [upd_ne (ne_of_none q h1)]; exact f.rest b ob n q, by rw [upd_ne h2.symm]; exact f.held⟩
theorem Fs.thaw {o : Obj} {a : Addr} {kvs : List (Key × V)} {H1 H H' : Hp} (f : Fs o a kvs H1 H) (hr : Rd H1 a (.dK kvs)) (fz : ∃ H2, Fzn a o kvs H1 H2) (t : Thw a o kvs H1 H H') : Same H1 H' ∧ ∀ b, b ≠ a → H' b = H b := by
  rcases t with ⟨e, rfl⟩ | ⟨e, rfl⟩
  · refine ⟨fun b ob q => ?_, fun b n => upd_ne n⟩
    by_cases hb : b = a
    · subst hb; rw [upd_same]; rw [e] at q; exact q
    · rw [upd_ne hb]; exact f.rest b ob hb q
  · refine ⟨fun b ob q => ?_, fun _ _ => rfl⟩
    by_cases hb : b = a
    · subst hb
      obtain ⟨H2, h2, c | ⟨c, _⟩⟩ := fz
      · subst c; rw [h2] at q; rw [← q]; exact f.held
      · exact absurd c e
    · exact f.rest b ob hb q
end
end L2

set_option Elab.async false
set_option linter.all false
set_option maxRecDepth 100000
/-! BUILT-IN functions and methods (own work) -/
namespace L2
open PySem PySem.Spec PyProof.Rows

/-! ### isinstance -/
def D.ty : D → String
  | .non => "NoneType" | .bl _ => "bool" | .int _ => "int" | .str _ => "str" | .lst _ => "list" | .tup _ => "tuple" | .dct _ => "dict"
def isiB (a b : String) : Bool := a == b || (a == "bool" && b == "int")
def tyOk (b : String) : Bool := ["bool", "int", "str", "list", "tuple", "dict"].contains b
section
variable {X : Cx}
theorem kit_of (K : PySem.W.Frag) (d : D) {b : String} (h : tyOk b = true) : PySem.W.kitOne K (.type d.ty) (.type b) = some (isiB d.ty b) := by
  have hb : b = "bool" ∨ b = "int" ∨ b = "str" ∨ b = "list" ∨ b = "tuple" ∨ b = "dict" := by simpa [tyOk] using h
  rcases hb with rfl | rfl | rfl | rfl | rfl | rfl <;> cases d <;> (show PySem.W.kitOne K (.type _) (.type _) = some _) <;> with_unfolding_all rfl
theorem isi_rep {pins : List (Addr × Obj)} {σ : St} {H : Hp} {s : Shared} {A : Around} {E : Value → Shared → Prop} {Q : Value → Shared → Prop} {x : V} {u : Value} {d : D} {b : String} (I : Inv X pins σ H s) (rx : RelV x u) (r : Rep X.K H x d) (h : tyOk b = true)
    (q : ∀ tk, Q (.bool (isiB d.ty b)) { s with toks := tk }) : wpAny (model X.prog X.w) A (call (.builtin "isinstance") [u, .type b]) Q E s := by
  have e := kit_of X.K d h
  cases r with
  | non => cases rx; exact PySem.W.kia_one PySem.W.kitx_none I.kIn True.intro e (fun z => nomatch z) q
  | bl y => cases rx; exact PySem.W.kia_one PySem.W.kitx_bool I.kIn True.intro e (fun z => nomatch z) q
  | int i => obtain ⟨t, rfl⟩ := rx; exact PySem.W.kia_one PySem.W.kitx_int I.kIn True.intro e (fun z => nomatch z) q
  | str y => obtain ⟨t, rfl⟩ := rx; exact PySem.W.kia_one PySem.W.kitx_str I.kIn True.intro e (fun z => nomatch z) q
  | lst hq _ =>
    cases rx
    obtain ⟨its, _, ⟨o, n, h1, h2, _⟩, _⟩ := I.list hq
    exact PySem.W.kia_one PySem.W.kitx_list I.kIn ⟨o, h1, h2⟩ e (fun z => nomatch z) q
  | tup hq _ =>
    cases rx
    obtain ⟨its, _, ⟨o, h1, h2, _⟩, _⟩ := I.tuple hq
    exact PySem.W.kia_one PySem.W.kitx_tuple I.kIn ⟨o, h1, h2⟩ e (fun z => nomatch z) q
  | dct hq _ =>
    cases rx
    obtain ⟨_, _, vs, _, o, es, ep, h1, h2, _⟩ := dk_rd I.hok hq
    exact PySem.W.kia_one PySem.W.kitx_dict I.kIn ⟨o, h1, h2.1⟩ e (fun z => nomatch z) q
/-- isinstance(x, T) of data -/
theorem call_isi : CallR X (.builtin "isinstance") (fun xs H Q => ∃ x d b, xs = [x, .ty b] ∧ Rep X.K H x d ∧ tyOk b = true ∧ Q (.bl (isiB d.ty b)) H) := by
  rintro pins s σ H xs us Q I r ⟨x, d, b, rfl, rd, hb, q⟩
  obtain ⟨u, v, rfl, ru, rv⟩ := vals2 r
  cases rv
  exact isi_rep I ru rd hb fun tk => ⟨.bl _, H, I.tok tk, rfl, q⟩

/-! ### all(list of bools) -/
end
end L2

set_option Elab.async false
set_option linter.all false
set_option maxRecDepth 100000
namespace L2
open PySem PySem.Spec PyProof.Rows
/-! ### the order of texts -/
def sLt (a b : Str) : Prop := a.cps.toList < b.cps.toList
def sLe (a b : Str) : Prop := a.cps.toList ≤ b.cps.toList
instance (a b : Str) : Decidable (sLt a b) := inferInstanceAs (Decidable (a.cps.toList < b.cps.toList))
instance (a b : Str) : Decidable (sLe a b) := inferInstanceAs (Decidable (a.cps.toList ≤ b.cps.toList))
theorem Str.ext' {a b : Str} (h : a.cps.toList = b.cps.toList) : a = b := by
  obtain ⟨x⟩ := a; obtain ⟨y⟩ := b
  have : x = y := by obtain ⟨x⟩ := x; obtain ⟨y⟩ := y; exact congrArg Array.mk h
  rw [this]
theorem sLe_trans {a b c : Str} (h : sLe a b) (h' : sLe b c) : sLe a c := List.le_trans h h'
theorem sLe_antisymm {a b : Str} (h : sLe a b) (h' : sLe b a) : a = b := Str.ext' (List.le_antisymm h h')
theorem sLe_total (a b : Str) : sLe a b ∨ sLe b a := List.le_total _ _
theorem sLt_irrefl (a : Str) : ¬ sLt a a := List.lt_irrefl _
theorem sLt_iff {a b : Str} : sLt a b ↔ ¬ sLe b a := by unfold sLt sLe; exact List.not_le.symm
theorem sLt_trans {a b c : Str} (h : sLt a b) (h' : sLt b c) : sLt a c := List.lt_trans h h'
theorem sLt_of_le_ne {a b : Str} (h : sLe a b) (n : a ≠ b) : sLt a b := sLt_iff.mpr fun h' => n (sLe_antisymm h h')
theorem sLt_or {a b : Str} : sLt a b ∨ a = b ∨ sLt b a := by
  by_cases e : a = b
  · exact .inr (.inl e)
  · rcases sLe_total a b with h | h
    · exact .inl (sLt_of_le_ne h e)
    · exact .inr (.inr (sLt_of_le_ne h (fun q => e q.symm)))
def sortS (l : List Str) : List Str := l.mergeSort fun a b => decide (sLe a b)
theorem sortS_perm (l : List Str) : (sortS l).Perm l := List.mergeSort_perm _ _
theorem sortS_pw (l : List Str) : (sortS l).Pairwise sLe := by
  have := List.pairwise_mergeSort (le := fun a b => decide (sLe a b)) (fun a b c h1 h2 => decide_eq_true (sLe_trans (of_decide_eq_true h1) (of_decide_eq_true h2))) (fun a b => by
    rcases sLe_total a b with h | h <;> simp [h]) l
  exact this.imp fun h => of_decide_eq_true h
theorem sortS_eq {l l' : List Str} (p : l'.Perm l) (h : l'.Pairwise sLe) : l' = sortS l :=
  List.Perm.eq_of_pairwise (fun _ _ _ _ => sLe_antisymm) h (sortS_pw l) (p.trans (sortS_perm l).symm)
theorem sortS_len (l : List Str) : (sortS l).length = l.length := (sortS_perm l).length_eq
theorem mem_sortS {l : List Str} {x : Str} : x ∈ sortS l ↔ x ∈ l := (sortS_perm l).mem_iff
theorem sortS_nodup {l : List Str} (h : l.Nodup) : (sortS l).Nodup := (sortS_perm l).nodup_iff.mpr h
theorem rising_pw : ∀ (p : Str) (l : List Str), risingS p l = true → (∀ x ∈ l, sLe p x) ∧ l.Pairwise sLe
  | _, [], _ => ⟨fun _ h => absurd h (by simp), List.Pairwise.nil⟩
  | p, x :: r, h => by
    simp only [risingS, Bool.and_eq_true, Bool.not_eq_true'] at h
    obtain ⟨h1, h2⟩ := h
    obtain ⟨i1, i2⟩ := rising_pw x r h2
    have hx : sLe p x := by
      rw [ltCps_eq] at h1
      exact List.not_lt.mp (of_decide_eq_false h1)
    exact ⟨fun y hy => (List.mem_cons.mp hy).elim (fun e => e ▸ hx) fun m => sLe_trans hx (i1 y m), List.pairwise_cons.mpr ⟨i1, i2⟩⟩
theorem sortedS_pw {l : List Str} (h : sortedS l = true) : l.Pairwise sLe := by
  cases l with
  | nil => exact List.Pairwise.nil
  | cons x r => obtain ⟨i1, i2⟩ := rising_pw x r h; exact List.pairwise_cons.mpr ⟨i1, i2⟩

section
variable {X : Cx}
theorem strsAre_of : ∀ {ss : List Str} {us : List Value}, Vals (ss.map V.str) us → StrsAre us ss
  | [], _, h => by cases h; exact .nil
  | s :: r, _, h => by
    cases h with
    | cons h t => obtain ⟨tk, rfl⟩ := h; exact .cons _ _ (strsAre_of t)
theorem of_strsAre : ∀ {ss : List Str} {us : List Value}, StrsAre us ss → Vals (ss.map V.str) us
  | _, _, .nil => .nil
  | _, _, .cons _ t h => .cons ⟨t, rfl⟩ (of_strsAre h)
theorem lenS {n : Nat} (h : n < 64) : n ≤ sizeLine := Nat.le_of_lt (small1000 (by omega))
/-- what stands in a list that is made of a source: the collected things -/
theorem collect_src {prog : Program} {w : World} {A : Around} {E : Value → Shared → Prop} {s : Shared} {T : String} {r d : Addr} {n : Nat} {P : Nat → Value → Prop} {OK : Heap → Prop} {Q : List Value → Shared → Prop} (K : PySem.W.KdlSrc prog w T r d n P OK) (hh : A.handled = none) (hok : OK s.heap) (hn : n ≤ sizeLine)
    (h : ∀ (h' : Heap) (tk : Nat) (vs : List Value), (∀ b o, s.heap.get? b = some o → h'.get? b = some o) → vs.length = n → (∀ i v, vs[i]? = some v → P i v) → Q vs { s with heap := h', toks := tk }) : wpAny (model prog w) A (collect (.ref r)) Q E s := by
  have hlt := K.there _ hok
  unfold collect
  refine wpAny_bind (wpAny_runValue (codeAny_builtin F.entry_proto_collect ?_))
  rw [Around.under_plainId F.plain_proto_collect _]
  show wpAny _ A.in1 (newList [] >>= fun l => again (.builtin "list.__iadd__" ⟨[l, .ref r], []⟩)) _ _ s
  refine wpAny_bind (wpAny_newObj_type (wpAny_pure ⟨plainId_quiet F.plain_list_iadd _, codeAny_builtin F.entry_list_iadd ?_⟩))
  rw [Around.under_plainId F.plain_list_iadd _]
  show wpAny _ A.in1 (Builtin.List.listExtendWith (.ref s.heap.objs.size) (.ref r) (.ref s.heap.objs.size)) _ _ _
  have hS : (s.heap.push { cls := .type "list", data := .seq ([] : List Value).toArray }).get? s.heap.objs.size = some { cls := .type "list", data := .seq #[] } := Heap.get?_push_size _ rfl
  refine PySem.W.kdl_extend (R := fun r s' => match r with
      | .ok (.ret v) => wpAny (model prog w) A (match v with
        | .ref a => (do
          let o ← load a
          match o.data with
          | .seq xs _ => pure xs.toList
          | _ => unsupported "internal:collect")
        | _ => unsupported "internal:collect") Q E s'
      | .ok _ => False
      | .error e => E e s') (A := A) (s := { s with heap := s.heap.push { cls := .type "list", data := .seq ([] : List Value).toArray } }) K hh (K.keep _ _ hok fun b _ o e => Heap.get?_push_of_some _ e) _ (Nat.ne_of_gt hlt.1) (Nat.ne_of_gt hlt.2) _ _ hS (fun h' tk acc c hk hS' hacc => ?_) hn
  refine wpAny_bind (wpAny_load hS' ?_)
  refine wpAny_pure (h h' tk acc.toList (fun b o e => hk b o (Nat.ne_of_lt (Heap.lt_size e)) (Heap.get?_push_of_some _ e)) (by rw [Array.length_toList]; exact hacc.1) fun i v e => hacc.2 i v (by rw [← Array.getElem?_toList]; exact e))
/-- a list of texts that was collected, sorted -/
theorem sorted_by {pins : List (Addr × Obj)} {σ : St} {H : Hp} {s : Shared} {v : Value} {ss : List Str} {Q : VK} (I : Inv X pins σ H s) (h64 : ss.length < 64)
    (hc : ∀ (R : List Value → Shared → Prop), (∀ (h' : Heap) (tk : Nat) (vs : List Value), (∀ b o, s.heap.get? b = some o → h'.get? b = some o) → StrsAre vs ss → R vs { s with heap := h', toks := tk }) → wpAny (model X.prog X.w) X.A.in1 (collect v) R X.xe s)
    (q : ∀ p, H p = none → Q (.ref p) (upd H p (.lst ((sortS ss).map V.str)))) : wpAny (model X.prog X.w) X.A (call (.builtin "sorted") [v]) (EP X pins σ Q) X.xe s := by
  refine Calls.call_function_entry kind_sorted plain_sorted entry_sorted (args_sorted1 _) ?_
  unfold Builtin.«sorted»
  refine wpAny_bind (m := checkCount "sorted" 1 1 _) (wpAny_pure ?_)
  refine wpAny_bind (hc _ fun h1 tk vs hk hS => ?_)
  have hlen : vs.length = ss.length := by
    have := congrArg List.length hS.strs
    simpa using this
  refine wpAny_bind (wpAny_newList ?_)
  have hoL : (h1.push (seqObj "list" vs.toArray 0)).get? h1.objs.size = some (seqObj "list" vs.toArray 0) := Heap.get?_push_size _ rfl
  refine wpAny_bind (wpAny_holding (wpAny_call_entry slot_list_sort ⟨_, hoL, rfl⟩ entry_list_sort (list_sort_treeK strKind_oneLt hoL hS.keysOf (fun v₁ v₂ rest e => keyKind_strs (by rw [← e]; exact hS)) (by omega) fun st' a1 a2 => ⟨_, rfl, ?_⟩) (args_list_sort _)))
  obtain ⟨ss', b1, b2, b3⟩ := sorted_out_str hS a1 a2
  have e := sortS_eq b2 (sortedS_pw b3)
  subst e
  have I1 : Inv X pins σ H { s with heap := h1, toks := tk } := I.kept hk
  have hn : H h1.objs.size = none := I1.hok.fresh (Nat.le_refl _)
  obtain ⟨ep, eo⟩ := sortedHeap_at (out := (arrOf st').map (·.2)) hoL
  refine wpAny_pure ⟨_, rfl, .ref h1.objs.size, _, ?_, rfl, q _ hn⟩
  refine I1.laid (t' := tk) (fun b o e => ?_) (Nat.le_refl _) ⟨by rw [List.length_map, sortS_len]; exact lenS h64, ((arrOf st').map (·.2)).toList, ep, of_strsAre b1, ?_⟩
  · have hb := Heap.lt_size e
    rw [sortedHeap_old (Nat.ne_of_lt hb) (Nat.lt_of_lt_of_le hb (by rw [Heap.size_push]; exact Nat.le_succ _))]
    exact Heap.get?_push_of_some _ e
  · rw [eo]
theorem walked_strs : ∀ {ss : List Str} {vs : List Value}, vs.length = ss.length → (∀ (i : Nat) (v : Value), vs[i]? = some v → ∃ x, ss[i]? = some x ∧ ∃ t, v = Value.str x t) → StrsAre vs ss
  | [], [], _, _ => .nil
  | [], _ :: _, h, _ => by simp at h
  | _ :: _, [], h, _ => by simp at h
  | x :: r, v :: vs, h, q => by
    obtain ⟨y, e, t, rfl⟩ := q 0 v rfl
    simp at e
    subst e
    exact .cons _ t (walked_strs (by simpa using h) fun i u e => by simpa using q (i + 1) u (by simpa using e))
/-- the keys of a dict of texts -/
def keysS (kvs : List (Key × V)) (ks : List Str) : Prop := kvs.map (·.1) = ks.map Sum.inr
theorem keysS.get {kvs : List (Key × V)} {ks : List Str} (h : keysS kvs ks) {i : Nat} {k : Key} {v : V} (e : kvs[i]? = some (k, v)) : ∃ x, ks[i]? = some x ∧ k = Sum.inr x := by
  have : (kvs.map (·.1))[i]? = some k := by rw [List.getElem?_map, e]; rfl
  rw [h, List.getElem?_map] at this
  cases q : ks[i]? with
  | none => rw [q] at this; cases this
  | some x => rw [q] at this; exact ⟨x, rfl, (Option.some.inj this).symm⟩
theorem keysS.length {kvs : List (Key × V)} {ks : List Str} (h : keysS kvs ks) : kvs.length = ks.length := by
  have := congrArg List.length h
  simpa using this
theorem dict_src {pins : List (Addr × Obj)} {σ : St} {H : Hp} {s : Shared} {a : Addr} {kvs : List (Key × V)} (I : Inv X pins σ H s) (h : Rd H a (.dK kvs)) :
    kvs.length ≤ sizeLine ∧ ∃ vs ep, KV kvs vs ∧ s.heap.DictAt (mixKind X.prog X.w) a vs ep ∧ PySem.W.KdlSrc X.prog X.w "dict" a a vs.length (fun i v => ∃ k x, vs[i]? = some (k, x) ∧ (mixKind X.prog X.w).is k v = true) (fun h => h.DictAt (mixKind X.prog X.w) a vs ep) := by
  obtain ⟨z, m, vs, rel, dd⟩ := dk_rd I.hok h
  obtain ⟨ep, da⟩ := dd.dictAt
  exact ⟨z, vs, ep, rel, da, PySem.W.kdl_dict m⟩
/-- sorted(dict whose keys are texts) -/
theorem call_sortedD : CallR X (.builtin "sorted") (fun xs H Q => X.calm = true ∧ ∃ (a : Addr) (kvs : List (Key × V)) (ks : List Str), xs = [.ref a] ∧ Rd H a (.dK kvs) ∧ keysS kvs ks ∧ ks.length < 64 ∧ ∀ p, H p = none → Q (.ref p) (upd H p (.lst ((sortS ks).map V.str)))) := by
  rintro pins s σ H xs us Q I r ⟨hc, a, kvs, ks, rfl, hr, hk, h64, q⟩
  obtain ⟨u, rfl, ru⟩ := vals1 r
  cases ru
  obtain ⟨z, vs, ep, rel, da, src⟩ := dict_src I hr
  have hl := Paired.length rel
  refine sorted_by I h64 (fun R hR => collect_src src (I.ok.hd hc) da (by omega) fun h' tk us hk' hlen hP => hR h' tk us hk' ?_) q
  refine walked_strs (by have := hk.length; omega) fun i v e => ?_
  obtain ⟨k, x, e1, e2⟩ := hP i v e
  have hi : i < kvs.length := by rw [hl]; exact (List.getElem?_eq_some_iff.mp e1).1
  obtain ⟨⟨k', v'⟩, e3⟩ : ∃ p, kvs[i]? = some p := ⟨kvs[i], by simp [hi]⟩
  obtain ⟨u', e4, _⟩ := KV.get rel e3
  rw [e1] at e4
  cases e4
  obtain ⟨y, e5, rfl⟩ := hk.get e3
  refine ⟨y, e5, ?_⟩
  rcases keyIs_shape (show keyIs (Sum.inr y) v = true from e2) with ⟨i, t, q1, q2⟩ | ⟨y', t, q1, q2⟩
  · cases q1
  · cases q1; exact ⟨t, q2⟩
end
end L2

set_option Elab.async false
set_option linter.all false
set_option maxRecDepth 100000
/-! TEXTS (own work) -/
namespace L2
open PySem PySem.Spec PyProof.Rows PySem.Builtin.Str
/-- the list of a text's signs, and back -/
abbrev cs (x : Str) : List Nat := x.cps.toList
abbrev ofC (l : List Nat) : Str := ⟨l.toArray⟩
theorem cs_ofC (l : List Nat) : cs (ofC l) = l := rfl
theorem cs_len (x : Str) : (cs x).length = x.length := by obtain ⟨x⟩ := x; rfl
theorem cs_append (x y : Str) : cs (x ++ y) = cs x ++ cs y := by
  obtain ⟨x⟩ := x; obtain ⟨y⟩ := y
  show (x ++ y).toList = x.toList ++ y.toList
  simp
/-- x[lo:hi] -/
def cutC {α : Type} (l : List α) (lo hi : Option Int) : List α := (l.drop (HT.sIx l.length 0 lo)).take (HT.sIx l.length l.length hi - HT.sIx l.length 0 lo)
def cutS (x : Str) (lo hi : Option Int) : Str := ofC (cutC (cs x) lo hi)
theorem cutC_len {α : Type} (l : List α) (lo hi : Option Int) : (cutC l lo hi).length ≤ l.length := by
  unfold cutC
  rw [List.length_take, List.length_drop]
  omega
theorem clip1 (lo : Option Int) (n d : Nat) (hd : d ≤ n) : (match lo with | none => (d : Int) | some i => (let i := if i < 0 then i + n else i; if (1 : Int) > 0 then max 0 (min i n) else max (-1) (min i ((n : Int) - 1)))) = ((HT.sIx n d lo : Nat) : Int) := by
  cases lo with
  | none => rfl
  | some i =>
    show (if (1 : Int) > 0 then max 0 (min (if i < 0 then i + (n : Int) else i) n) else _) = _
    rw [if_pos (by decide)]
    unfold HT.sIx
    by_cases h : i < 0
    · simp only [h, if_true]; omega
    · simp only [h, if_false]; omega
theorem indices_cut (lo hi : Option Int) (n : Nat) : strSliceIndices lo hi 1 n = (List.range (HT.sIx n n hi - HT.sIx n 0 lo)).map fun k => HT.sIx n 0 lo + k := by
  have e1 := clip1 lo n 0 (Nat.zero_le _)
  have e2 := clip1 hi n n (Nat.le_refl _)
  have : strSliceIndices lo hi 1 n = sliceRange ((HT.sIx n 0 lo : Nat) : Int) ((HT.sIx n n hi : Nat) : Int) 1 := by
    rw [← e1, ← e2]
    cases lo <;> cases hi <;> rfl
  rw [this]
  unfold sliceRange
  generalize HT.sIx n 0 lo = a
  generalize HT.sIx n n hi = b
  by_cases h : (a : Int) < b
  · simp only [show ((1 : Int) > 0) = True by simp, if_true, h]
    have e3 : (((b : Int) - a + 1 - 1) / 1).toNat = b - a := by omega
    rw [e3]
    apply List.map_congr_left
    intro k _
    omega
  · simp only [show ((1 : Int) > 0) = True by simp, if_true, h, if_false]
    have e3 : b - a = 0 := by omega
    rw [e3]
    rfl
theorem picked_cut (x : Str) (l u : Option (Int × Tok)) : (slicePicked x l u none).filterMap (x.cps[·]?) = cutC (cs x) (l.map (·.1)) (u.map (·.1)) := by
  unfold slicePicked cutC
  show (strSliceIndices (l.map (·.1)) (u.map (·.1)) 1 x.length).filterMap _ = _
  rw [indices_cut, cs_len]
  have hle := HT.sIx_le x.length x.length (Nat.le_refl _) (u.map (·.1))
  generalize HT.sIx x.length 0 (l.map (·.1)) = a at *
  generalize HT.sIx x.length x.length (u.map (·.1)) = b at *
  have e : (fun (i : Nat) => x.cps[i]?) = fun (i : Nat) => (cs x)[i]? := by funext i; simp [cs]
  rw [e]
  by_cases h : a ≤ b
  · exact StrLaws.picks (cs x) (b - a) a (by rw [cs_len]; omega)
  · have e3 : b - a = 0 := by omega
    rw [e3]; simp
section
variable {X : Cx}
/-- x[lo:hi] of a text -/
theorem sl_str : SlR X (fun x lo hi H Q => ∃ z, x = .str z ∧ z.length ≤ sizeLine ∧ Q (.str (cutS z lo hi)) H) := by
  rintro pins s σ H x v vl vu lo hi sl Q I rx hs pl pu ⟨z, rfl, hz, q⟩
  obtain ⟨t, rfl⟩ := rx
  refine ⟨"str", _, PySem.F.slot_str_getitem.lookup, typeIs_str s z t, ?_⟩
  obtain ⟨l, hl1, hl2⟩ : ∃ l : Option (Int × Tok), vl = partValue l ∧ lo = l.map (·.1) := by
    cases pl with
    | none => exact ⟨none, rfl, rfl⟩
    | int i t => exact ⟨some (i, t), rfl, rfl⟩
  obtain ⟨u, hu1, hu2⟩ : ∃ l : Option (Int × Tok), vu = partValue l ∧ hi = l.map (·.1) := by
    cases pu with
    | none => exact ⟨none, rfl, rfl⟩
    | int i t => exact ⟨some (i, t), rfl, rfl⟩
  subst hl1 hl2 hu1 hu2
  refine wpAny_getItem_str_slice (l := l) (u := u) (st := none) hs (by rfl) ?_
  unfold sliceMade
  split
  · rename_i hw
    have hw' : (slicePicked z l u none).length = z.length := by simpa using hw
    have e : cutS z (l.map (·.1)) (u.map (·.1)) = z := by
      have hp := picked_cut z l u
      unfold cutS
      have hlen : (cutC (cs z) (l.map (·.1)) (u.map (·.1))) = cs z := by
        unfold slicePicked at hw'
        rw [show ((none : Option (Int × Tok)).map (·.1)).getD 1 = (1 : Int) from rfl, indices_cut, List.length_map, List.length_range] at hw'
        have h1 := HT.sIx_le z.length z.length (Nat.le_refl _) (u.map (·.1))
        unfold cutC
        rw [cs_len]
        generalize HT.sIx z.length 0 (l.map (·.1)) = a at *
        generalize HT.sIx z.length z.length (u.map (·.1)) = b at *
        have ha : a = 0 ∨ z.length = 0 := by omega
        rcases ha with ha | ha
        · subst ha
          rw [List.drop_zero, List.take_of_length_le (by rw [cs_len]; omega)]
        · have : cs z = [] := List.eq_nil_of_length_eq_zero (by rw [cs_len]; exact ha)
          rw [this]
          simp
      rw [hlen]
    rw [e] at q
    exact ⟨.str z, H, I, ⟨t, rfl⟩, q⟩
  · rw [picked_cut]
    refine ⟨?_, .str _, H, I.tok _, ⟨_, rfl⟩, q⟩
    have := cutC_len (cs z) (l.map (·.1)) (u.map (·.1))
    rw [cs_len] at this
    show (cutC (cs z) (l.map (·.1)) (u.map (·.1))).toArray.size ≤ _
    rw [List.size_toArray]
    omega
/-- sep.join(list of texts) -/
def joinS : Str → List Str → Str := Txt.join
theorem mt_join : MtR X "str.join" (fun x xs H Q => ∃ (sep : Str) (a : Addr) (ss : List Str), x = .str sep ∧ xs = [.ref a] ∧ SqL X.K H a (ss.map V.str) ∧ (ss.map (·.length)).sum + ss.length * sep.length ≤ 16777216 ∧ Q (.str (joinS sep ss)) H) := by
  rintro pins s σ H x xs v us Q I rx rv ⟨sep, a, ss, rfl, rfl, hq, hz, q⟩
  obtain ⟨t, rfl⟩ := rx
  obtain ⟨u, rfl, ru⟩ := vals1 rv
  cases ru
  obtain ⟨its, rr, p, _⟩ := I.list hq
  exact join_list p.isList (by simpa using strsAre_of rr) hz fun t' k => ⟨.str _, H, I.tok _, ⟨_, rfl⟩, q⟩
end
/-- the signs of a text -/
def Its (x : Str) : It := ⟨fun i _ => i < x.length, fun i H v H' => H' = H ∧ ∃ c, (cs x)[i]? = some c ∧ v = .str ⟨#[c]⟩, fun i _ => x.length ≤ i⟩
theorem IsStrIter.at {h h' : Heap} {it : Addr} {ty : String} {x : Str} {t : Tok} {i : Nat} (y : h.IsStrIter it ty x t i) (e : ∀ o, h.get? it = some o → h'.get? it = some o) : h'.IsStrIter it ty x t i := let ⟨o, ho, r⟩ := y; ⟨o, e _ ho, r⟩
def iStr (tl : TE) : TI := fun σ H R => tl σ H fun v H1 => ∃ x, v = .str x ∧ R (Its x) H1
section
variable {X : Cx} {tg : Expr}
end
end L2

set_option Elab.async false
set_option linter.all false
set_option maxRecDepth 100000
namespace L2
open PySem PySem.Spec PyProof.Rows
/-! ### the names of Python's own -/
theorem boot_isinstance' : bootBuiltins "isinstance" = some (.builtin "isinstance") := by decide +kernel
theorem boot_len' : bootBuiltins "len" = some (.builtin "len") := by decide +kernel
theorem boot_max' : bootBuiltins "max" = some (.builtin "max") := by decide +kernel
theorem boot_min' : bootBuiltins "min" = some (.builtin "min") := by decide +kernel
theorem boot_ty_str : bootBuiltins "str" = some (.type "str") := by decide +kernel
theorem boot_ty_list : bootBuiltins "list" = some (.type "list") := by decide +kernel
theorem boot_ty_dict : bootBuiltins "dict" = some (.type "dict") := by decide +kernel
/-- a def of the top: how it stands, how it binds, its name -/
structure Top (K : PySem.W.Frag) (mg : Str → Option Value) (nm : Str) (st : Stmt) (ps : List Str) (f : Addr) (fd : FuncData) : Prop where
  fn : Fun K nm nm st f fd
  bd : Binds K fd ps []
  mg : mg nm = some (.ref f)
theorem Top.kp {K : PySem.W.Frag} {mg : Str → Option Value} {nm : Str} {st : Stmt} {ps : List Str} {f : Addr} {fd : FuncData} (T : Top K mg nm st ps f fd) : PySem.W.keepIn K (.ref f) = true := T.fn.kp
section
variable {X : Cx}
/-- d.clear() -/
theorem mt_clearD : MtR X "dict.clear" (fun x xs H Q => ∃ a kvs, x = .ref a ∧ xs = [] ∧ H a = some (.dK kvs) ∧ Q .non (upd H a (.dK []))) := by
  rintro pins s σ H x xs v us Q I rx rv ⟨a, kvs, rfl, rfl, h, q⟩
  cases rx
  cases rv
  exact d_clear I h fun s' I' => ⟨.non, _, I', rfl, q⟩
/-- for v in d.values(): as over the keys -/
def tForV (te : TE) (g : TG) (tb : TS) : TS := fun D σ H => te σ H fun x H1 => ∃ a kvs, x = .ref a ∧ Rd H1 a (.dK kvs) ∧ ∀ o H2, Fzn a o kvs H1 H2 → LoopVC (Itv a o kvs) g tb (thawE a o kvs H1 D) σ H2
end
section
variable {X : Cx} {tg : Expr}
end
end L2

set_option Elab.async false
set_option linter.all false
set_option maxRecDepth 100000
/-! NETS: dicts of dicts of ints, with texts as keys (own work) -/
namespace L2
open PySem PySem.Spec PyProof.Rows
abbrev Row := List (Str × Int)
def look (l : Row) (k : Str) : Option Int := (l.find? fun e => decide (e.1 = k)).map (·.2)
def put (l : Row) (k : Str) (v : Int) : Row := if (l.any fun e => decide (e.1 = k)) = true then l.map (fun e => if e.1 = k then (e.1, v) else e) else l ++ [(k, v)]
def encI (l : Row) : List (Key × V) := l.map fun e => (Sum.inr e.1, .int e.2)
def rowD (l : Row) : D := .dct (l.map fun e => (Sum.inr e.1, .int e.2))
theorem look_nil (k : Str) : look [] k = none := rfl
theorem look_cons (x : Str) (y : Int) (r : Row) (k : Str) : look ((x, y) :: r) k = if x = k then some y else look r k := by
  unfold look
  rw [List.find?_cons]
  by_cases h : x = k
  · rw [decide_eq_true h, if_pos h]; rfl
  · rw [decide_eq_false h, if_neg h]
theorem any_look (l : Row) (k : Str) : (l.any fun e => decide (e.1 = k)) = (look l k).isSome := by
  induction l with
  | nil => rfl
  | cons e r ih =>
    obtain ⟨x, y⟩ := e
    rw [List.any_cons, look_cons, ih]
    by_cases h : x = k
    · simp [h]
    · simp [h]
theorem look_append (l l' : Row) (k : Str) : look (l ++ l') k = (look l k).or (look l' k) := by
  induction l with
  | nil => simp [look_nil]
  | cons e r ih =>
    obtain ⟨x, y⟩ := e
    rw [List.cons_append, look_cons, look_cons, ih]
    by_cases h : x = k
    · simp [h]
    · simp [h]
theorem look_repl (l : Row) (k : Str) (v : Int) (j : Str) : look (l.map fun e => if e.1 = k then (e.1, v) else e) j = if k = j then (look l k).map (fun _ => v) else look l j := by
  induction l with
  | nil => by_cases h : k = j <;> simp [look_nil, h]
  | cons e r ih =>
    obtain ⟨x, y⟩ := e
    by_cases h : x = k
    · subst h
      rw [List.map_cons, if_pos rfl, look_cons, look_cons, look_cons, ih]
      by_cases h2 : x = j
      · simp [h2]
      · simp [h2]
    · rw [List.map_cons, if_neg h, look_cons, look_cons, look_cons, ih]
      by_cases h2 : x = j
      · subst h2
        have : ¬ k = x := fun q => h q.symm
        simp [h, this]
      · by_cases h3 : k = j
        · simp [h2, h3, h]
        · simp [h2, h3, h]
theorem look_put (l : Row) (k : Str) (v : Int) (j : Str) : look (put l k v) j = if k = j then some v else look l j := by
  unfold put
  rw [any_look]
  cases h : look l k with
  | some w =>
    rw [if_pos (by simp), look_repl, h]
    rfl
  | none =>
    rw [if_neg (by simp), look_append, look_cons, look_nil]
    by_cases c : k = j
    · subst c; simp [h]
    · simp [c]
theorem put_keys_in {l : Row} {k : Str} {v : Int} (h : (look l k).isSome = true) : (put l k v).map (·.1) = l.map (·.1) := by
  unfold put
  rw [any_look, if_pos h, List.map_map]
  apply List.map_congr_left
  intro e _
  show (if e.1 = k then (e.1, v) else e).1 = e.1
  by_cases c : e.1 = k <;> simp [c]
theorem put_keys_new {l : Row} {k : Str} {v : Int} (h : look l k = none) : (put l k v).map (·.1) = l.map (·.1) ++ [k] := by
  unfold put
  rw [any_look, h, if_neg (by simp), List.map_append]
  rfl
theorem look_mem {l : Row} {k : Str} {v : Int} (h : look l k = some v) : (k, v) ∈ l := by
  induction l with
  | nil => cases h
  | cons e r ih =>
    obtain ⟨a, b⟩ := e
    rw [look_cons] at h
    by_cases c : a = k
    · rw [if_pos c] at h; cases h; subst c; exact List.mem_cons_self
    · rw [if_neg c] at h; exact List.mem_cons_of_mem _ (ih h)
theorem mem_look {l : Row} (nd : (l.map (·.1)).Nodup) {k : Str} {v : Int} (h : (k, v) ∈ l) : look l k = some v := by
  induction l with
  | nil => simp at h
  | cons e r ih =>
    obtain ⟨a, b⟩ := e
    have nd' : (a :: r.map (·.1)).Nodup := nd
    obtain ⟨h1, h2⟩ := List.nodup_cons.mp nd'
    rw [look_cons]
    rcases List.mem_cons.mp h with q | q
    · cases q; rw [if_pos rfl]
    · rw [if_neg (fun (c : a = k) => h1 (by rw [c]; exact List.mem_map.mpr ⟨_, q, rfl⟩))]; exact ih h2 q
theorem look_none {l : Row} {k : Str} : look l k = none ↔ k ∉ l.map (·.1) := by
  induction l with
  | nil => simp [look_nil]
  | cons e r ih =>
    obtain ⟨a, b⟩ := e
    rw [look_cons]
    by_cases c : a = k
    · subst c; simp
    · rw [if_neg c, ih]
      have c' : ¬ k = a := fun q => c q.symm
      simp [c']
theorem look_some_iff {l : Row} {k : Str} : (∃ v, look l k = some v) ↔ k ∈ l.map (·.1) := by
  constructor
  · rintro ⟨v, h⟩; exact List.mem_map.mpr ⟨_, look_mem h, rfl⟩
  · intro h
    cases e : look l k with
    | none => exact absurd h (look_none.mp e)
    | some v => exact ⟨v, rfl⟩
/-- rows of the same pairs have as many -/
theorem rows_len {l l' : Row} (n : (l.map (·.1)).Nodup) (n' : (l'.map (·.1)).Nodup) (h : ∀ k, look l k = look l' k) : l.length = l'.length := by
  have p : (l.map (·.1)).Perm (l'.map (·.1)) := (List.perm_ext_iff_of_nodup n n').mpr fun k => by
    rw [← look_some_iff, ← look_some_iff, h]
  simpa using p.length_eq
theorem valV_enc (l : Row) (k : Str) : valV (encI l) (Sum.inr k) = (look l k).map V.int := by
  induction l with
  | nil => rfl
  | cons e r ih =>
    obtain ⟨a, b⟩ := e
    show valV ((Sum.inr a, V.int b) :: encI r) (Sum.inr k) = _
    rw [look_cons]
    by_cases c : a = k
    · subst c; rw [valV_pos rfl, if_pos rfl]; rfl
    · rw [valV_neg (fun q => c (Sum.inr.inj q)), if_neg c]; exact ih
theorem put_nodup {l : Row} (k : Str) (v : Int) (h : (l.map (·.1)).Nodup) : ((put l k v).map (·.1)).Nodup := by
  cases e : look l k with
  | some w => rw [put_keys_in (by rw [e]; rfl)]; exact h
  | none => rw [put_keys_new e]; exact nd_snoc h (look_none.mp e)
theorem encI_put (l : Row) (k : Str) (v : Int) : putK (encI l) (Sum.inr k) (.int v) = encI (put l k v) := by
  unfold putK put
  have e1 : ((encI l).any fun kv => decide (kv.1 = (Sum.inr k : Key))) = l.any fun e => decide (e.1 = k) := by
    unfold encI
    rw [List.any_map]
    congr 1
    funext e
    exact key_rr e.1 k
  rw [e1]
  split
  · unfold encI
    rw [List.map_map, List.map_map]
    apply List.map_congr_left
    intro e _
    show (if (Sum.inr e.1 : Key) = Sum.inr k then ((Sum.inr e.1 : Key), V.int v) else (Sum.inr e.1, V.int e.2)) = (Sum.inr (if e.1 = k then (e.1, v) else e).1, V.int (if e.1 = k then (e.1, v) else e).2)
    by_cases c : e.1 = k
    · simp [c]
    · simp [c]
  · unfold encI
    rw [List.map_append]
    rfl
theorem encI_len (l : Row) : (encI l).length = l.length := by simp [encI]
/-- places and their rows -/
abbrev Outer := List (Str × Addr)
def encO (bs : Outer) : List (Key × V) := bs.map fun p => (Sum.inr p.1, .ref p.2)
def addrOf (bs : Outer) (x : Str) : Option Addr := (bs.find? fun e => decide (e.1 = x)).map (·.2)
theorem addrOf_cons (x : Str) (y : Addr) (r : Outer) (k : Str) : addrOf ((x, y) :: r) k = if x = k then some y else addrOf r k := by
  unfold addrOf
  rw [List.find?_cons]
  by_cases h : x = k
  · rw [decide_eq_true h, if_pos h]; rfl
  · rw [decide_eq_false h, if_neg h]
theorem valV_encO (bs : Outer) (k : Str) : valV (encO bs) (Sum.inr k) = (addrOf bs k).map V.ref := by
  induction bs with
  | nil => rfl
  | cons e r ih =>
    obtain ⟨a, b⟩ := e
    show valV ((Sum.inr a, V.ref b) :: encO r) (Sum.inr k) = _
    rw [addrOf_cons]
    by_cases c : a = k
    · subst c; rw [valV_pos rfl, if_pos rfl]; rfl
    · rw [valV_neg (fun q => c (Sum.inr.inj q)), if_neg c]; exact ih
theorem addrOf_mem {bs : Outer} {x : Str} {b : Addr} (h : addrOf bs x = some b) : (x, b) ∈ bs := by
  induction bs with
  | nil => cases h
  | cons e r ih =>
    obtain ⟨a, b'⟩ := e
    rw [addrOf_cons] at h
    by_cases c : a = x
    · rw [if_pos c] at h; cases h; subst c; exact List.mem_cons_self
    · rw [if_neg c] at h; exact List.mem_cons_of_mem _ (ih h)
theorem addrOf_none {bs : Outer} {x : Str} : addrOf bs x = none ↔ x ∉ bs.map (·.1) := by
  induction bs with
  | nil => simp [addrOf]
  | cons e r ih =>
    obtain ⟨a, b⟩ := e
    rw [addrOf_cons]
    by_cases c : a = x
    · subst c; simp
    · rw [if_neg c, ih]
      have c' : ¬ x = a := fun q => c q.symm
      simp [c']
theorem addrOf_some {bs : Outer} {x : Str} (h : x ∈ bs.map (·.1)) : ∃ b, addrOf bs x = some b := by
  cases e : addrOf bs x with
  | none => exact absurd h (addrOf_none.mp e)
  | some b => exact ⟨b, rfl⟩
/-- a net stands at a, to be read -/
structure NetR (H : Hp) (a : Addr) (bs : Outer) (f : Str → Row) : Prop where
  out : Rd H a (.dK (encO bs))
  inn : ∀ p ∈ bs, Rd H p.2 (.dK (encI (f p.1)))
  ks : (bs.map (·.1)).Nodup
/-- .. of which all dicts are apart and not held -/
structure NetAt (H : Hp) (a : Addr) (bs : Outer) (f : Str → Row) : Prop where
  out : H a = some (.dK (encO bs))
  inn : ∀ p ∈ bs, H p.2 = some (.dK (encI (f p.1)))
  ks : (bs.map (·.1)).Nodup
  nd : (a :: bs.map (·.2)).Nodup
theorem NetAt.r {H : Hp} {a : Addr} {bs : Outer} {f : Str → Row} (n : NetAt H a bs f) : NetR H a bs f := ⟨.inl n.out, fun p hp => .inl (n.inn p hp), n.ks⟩
theorem NetR.sm {H H' : Hp} {a : Addr} {bs : Outer} {f : Str → Row} (n : NetR H a bs f) (s : Sm H H') : NetR H' a bs f := ⟨s.dK _ _ n.out, fun p hp => s.dK _ _ (n.inn p hp), n.ks⟩
theorem NetAt.same {H H' : Hp} {a : Addr} {bs : Outer} {f : Str → Row} (n : NetAt H a bs f) (s : Same H H') : NetAt H' a bs f := ⟨s _ _ n.out, fun p hp => s _ _ (n.inn p hp), n.ks, n.nd⟩
theorem NetR.keys {H : Hp} {a : Addr} {bs : Outer} {f : Str → Row} (n : NetR H a bs f) : keysS (encO bs) (bs.map (·.1)) := by
  unfold keysS encO; rw [List.map_map, List.map_map]; rfl
theorem keysS_encI (l : Row) : keysS (encI l) (l.map (·.1)) := by
  unfold keysS encI; rw [List.map_map, List.map_map]; rfl
/-- the data of a net -/
def netD (ks : List Str) (f : Str → Row) : D := .dct (ks.map fun x => (Sum.inr x, rowD (f x)))
theorem RepD.rowI (K : PySem.W.Frag) (H : Hp) : ∀ l : Row, RepD K H (encI l) (l.map fun e => (Sum.inr e.1, D.int e.2))
  | [] => .nil
  | (x, y) :: r => .cons (.int y) (RepD.rowI K H r)
theorem NetR.rep {K : PySem.W.Frag} {H : Hp} {a : Addr} {bs : Outer} {f : Str → Row} (n : NetR H a bs f) : Rep K H (.ref a) (netD (bs.map (·.1)) f) := by
  refine .dct n.out ?_
  have inn := n.inn
  clear n
  induction bs with
  | nil => exact .nil
  | cons p r ih => exact .cons (.dct (inn p List.mem_cons_self) (RepD.rowI K H _)) (ih fun q hq => inn q (List.mem_cons_of_mem _ hq))
theorem lookD_map (g : Str → D) : ∀ (ks : List Str) (x : Str), x ∈ ks → lookD (ks.map fun y => (Sum.inr y, g y)) (Sum.inr x) = some (g x)
  | [], _, h => by simp at h
  | k :: r, x, h => by
    unfold lookD
    rw [List.map_cons, List.find?_cons]
    by_cases c : k = x
    · subst c; simp
    · rw [decide_eq_false (fun q => c (Sum.inr.inj q))]
      exact lookD_map g r x ((List.mem_cons.mp h).resolve_left fun q => c q.symm)
theorem lookD_row : ∀ (l : Row) (x : Str), lookD (l.map fun e => (Sum.inr e.1, D.int e.2)) (Sum.inr x) = (look l x).map D.int
  | [], _ => rfl
  | (a, b) :: r, x => by
    have ih := lookD_row r x
    unfold lookD at ih ⊢
    rw [List.map_cons, List.find?_cons, look_cons]
    by_cases c : a = x
    · subst c; simp
    · rw [if_neg c, decide_eq_false (fun q => c (Sum.inr.inj q))]; exact ih
theorem rowD_deq {l l' : Row} (n : (l.map (·.1)).Nodup) (n' : (l'.map (·.1)).Nodup) (h : ∀ k, look l k = look l' k) : DEq (rowD l) (rowD l') := by
  refine .dct (fun k => match k with | .inl _ => .non | .inr x => .int ((look l' x).getD 0)) ?_ ?_ ?_
  · simpa using rows_len n n' h
  · intro k d hm
    obtain ⟨e, he, q⟩ := List.mem_map.mp hm
    cases q
    have hl := mem_look n (k := e.1) (v := e.2) he
    have hl' := hl
    rw [h] at hl'
    rw [lookD_row, hl']
    show some (D.int e.2) = some (D.int ((look l' e.1).getD 0))
    rw [hl']
    rfl
  · intro k d hm
    obtain ⟨e, he, q⟩ := List.mem_map.mp hm
    cases q
    show DEq (.int e.2) (.int ((look l' e.1).getD 0))
    rw [← h, mem_look n (k := e.1) (v := e.2) he]
    exact .same rfl
/-- nets of the same places with the same lines are equal -/
theorem netD_deq {ks ks' : List Str} {f f' : Str → Row} (p : ks.Perm ks') (n : ∀ x ∈ ks, ((f x).map (·.1)).Nodup) (n' : ∀ x ∈ ks', ((f' x).map (·.1)).Nodup) (h : ∀ x ∈ ks, ∀ k, look (f x) k = look (f' x) k) : DEq (netD ks f) (netD ks' f') := by
  refine .dct (fun k => match k with | .inl _ => .non | .inr x => rowD (f' x)) (by simpa using p.length_eq) ?_ ?_
  · intro k d hm
    obtain ⟨x, hx, q⟩ := List.mem_map.mp hm
    cases q
    exact lookD_map (fun y => rowD (f' y)) ks' x (p.mem_iff.mp hx)
  · intro k d hm
    obtain ⟨x, hx, q⟩ := List.mem_map.mp hm
    cases q
    exact rowD_deq (n x hx) (n' x (p.mem_iff.mp hx)) (h x hx)
theorem depD_le {es : List (Key × D)} {m : Nat} (h : ∀ k d, (k, d) ∈ es → d.dep ≤ m) : D.depD es ≤ m := by
  induction es with
  | nil => exact Nat.zero_le _
  | cons e r ih =>
    obtain ⟨k, d⟩ := e
    simp only [D.depD]
    have := h k d List.mem_cons_self
    have := ih fun k d hm => h k d (List.mem_cons_of_mem _ hm)
    omega
theorem netD_dep (ks : List Str) (f : Str → Row) : (netD ks f).dep ≤ 2 := by
  show D.depD _ + 1 ≤ 2
  refine Nat.succ_le_succ (depD_le fun k d hm => ?_)
  obtain ⟨x, hx, q⟩ := List.mem_map.mp hm
  cases q
  show D.depD _ + 1 ≤ 1
  refine Nat.succ_le_succ (depD_le fun k d hm => ?_)
  obtain ⟨e, he, q⟩ := List.mem_map.mp hm
  cases q
  exact Nat.zero_le _
end L2
namespace L2
open PySem PySem.Spec PyProof.Rows
theorem top_mk {K : PySem.W.Frag} {h : Heap} {mg : Str → Option Value} {nm : Str} {st : Stmt} {ps : List Str} {f : Addr} {oc : Value} {od an : Option Addr} {osl : Array (Option Value)} {kV doc pm cdv ct : Value} (X : K.In h) (G : h.Ns mainGlobals mg)
    (a : PySem.W.nsIn K mainGlobals nm = some (some (.ref f))) (l : K.lookup f = some ⟨oc, od, .func (PySem.W.fnOf nm nm (defArgs st) (defBody st) (defScope st) .none kV doc pm an cdv ct), osl⟩) (c : PySem.W.codeIn K cdv nm = true) (k : PySem.W.keepIn K (.ref f) = true)
    (hb : ∀ (kV doc pm : Value) (an : Option Addr) (cdv ct : Value) (us : List Value), us.length = ps.length → bindArgs (PySem.W.fnOf nm nm (defArgs st) (defBody st) (defScope st) .none kV doc pm an cdv ct) ⟨us, []⟩ = pure (ps.zip us)) :
    Top K mg nm st ps f (PySem.W.fnOf nm nm (defArgs st) (defBody st) (defScope st) .none kV doc pm an cdv ct) :=
  ⟨fun_mk (st := st) l c k, (fun_mk (st := st) l c k).binds hb, PySem.W.mg_of X G a⟩
end L2

set_option Elab.async false
set_option linter.all false
set_option maxRecDepth 100000
namespace L2
open PySem PySem.Spec PyProof.Rows
theorem iteD {p A B : Prop} [Decidable p] (h1 : p → A) (h2 : ¬ p → B) : if decide p = true then A else B := by
  by_cases h : p
  · rw [if_pos (decide_eq_true h)]; exact h1 h
  · rw [if_neg (by simpa using h)]; exact h2 h
theorem iteB {b : Bool} {A B : Prop} (h1 : b = true → A) (h2 : b = false → B) : if b = true then A else B := by
  cases b with
  | true => rw [if_pos rfl]; exact h1 rfl
  | false => rw [if_neg (by simp)]; exact h2 rfl
/-- what a turn must reach -/
def NxC (n : Nat) (Pv : Nat → List V → Hp → Prop) (i : Nat) (ys : List V) (H : Hp) : Prop := ∃ m', m' < n - i ∧ m' = n - (i + 1) ∧ i + 1 ≤ n ∧ Pv (i + 1) ys H
theorem nxC {n : Nat} {Pv : Nat → List V → Hp → Prop} {i : Nat} {ys : List V} {H : Hp} (hlt : i < n) (p : Pv (i + 1) ys H) : NxC n Pv i ys H := ⟨_, by omega, rfl, hlt, p⟩
theorem comp_inv {J : It} {g : TG} {tt : TT} {te : TE} {σ' : St} {Post : VK} {H1 : Hp} (n : Nat) (Pv : Nat → List V → Hp → Prop) (h0 : Pv 0 [] H1) (hz : ∀ i ys H, Pv i ys H → ys.length < sizeLine)
    (hgo : ∀ i ys H, i < n → Pv i ys H → J.go i H ∧ ∀ x H', J.yld i H x H' → g x σ' H' fun σ2 H2 => tt σ2 H2 fun b H3 => if b = true then te σ2 H3 fun y H4 => NxC n Pv i (ys ++ [y]) H4 else NxC n Pv i ys H3)
    (hs : ∀ ys H, Pv n ys H → J.stop n H ∧ ∀ p, H p = none → Post (.ref p) (upd H p (.lst ys))) : CompVC J g tt te σ' Post H1 := by
  refine ⟨fun i m ys H => m = n - i ∧ i ≤ n ∧ Pv i ys H, ⟨n, rfl, Nat.zero_le _, h0⟩, ?_⟩
  rintro i m ys H ⟨rfl, hi, p⟩
  refine ⟨hz i ys H p, ?_⟩
  by_cases hlt : i < n
  · exact .inr (hgo i ys H hlt p)
  · have e : i = n := by omega
    subst e
    exact .inl (hs ys H p)
end L2

set_option Elab.async false
set_option linter.all false
set_option maxRecDepth 100000
set_option maxHeartbeats 4000000
/-! what the law's own helpers come to: names, nets, lines (own work) -/
namespace L2
open PySem PySem.Spec PyProof.Rows
/-! ### names -/
def isNm (x : Str) : Prop := 1 ≤ x.length ∧ x.length ≤ 8 ∧ ∀ c ∈ cs x, 97 ≤ c ∧ c ≤ 122
def lettersS : Str := "abcdefghijklmnopqrstuvwxyz"
theorem letters_cs : cs lettersS = (List.range 26).map (97 + ·) := by decide +kernel
theorem letter_at {j : Int} (h0 : 0 ≤ j) (h1 : j < 26) : atI (cs lettersS) j = some (97 + j.toNat) := by
  obtain ⟨k, rfl⟩ := Int.eq_ofNat_of_zero_le h0
  refine atI_nat ?_
  rw [letters_cs, List.getElem?_map, List.getElem?_range (by omega)]
  simp
theorem sIx_of {n d : Nat} {i : Int} (h : 0 ≤ i) : HT.sIx n d (some i) = min i.toNat n := by
  obtain ⟨k, rfl⟩ := Int.eq_ofNat_of_zero_le h
  rw [HT.sIx_nat]; simp
theorem cut_lo (l : List Nat) {i : Int} (h : 0 ≤ i) : cutC l none (some i) = l.take i.toNat := by
  unfold cutC
  rw [HT.sIx_none, sIx_of h, List.drop_zero, Nat.sub_zero]
  rcases Nat.le_total i.toNat l.length with q | q
  · rw [Nat.min_eq_left q]
  · rw [Nat.min_eq_right q, List.take_of_length_le (Nat.le_refl _), List.take_of_length_le q]
theorem cut_hi (l : List Nat) {i : Int} (h : 0 ≤ i) : cutC l (some i) none = l.drop i.toNat := by
  unfold cutC
  rw [HT.sIx_none, sIx_of h]
  rcases Nat.le_total i.toNat l.length with q | q
  · rw [Nat.min_eq_left q]
    exact List.take_of_length_le (by rw [List.length_drop]; exact Nat.le_refl _)
  · rw [Nat.min_eq_right q]
    rw [List.drop_eq_nil_of_le (Nat.le_refl _), List.drop_eq_nil_of_le q]; simp
theorem cutS_lo (x : Str) {i : Int} (h : 0 ≤ i) : cs (cutS x none (some i)) = (cs x).take i.toNat := by
  unfold cutS; rw [cs_ofC, cut_lo _ h]
theorem cutS_hi (x : Str) {i : Int} (h : 0 ≤ i) : cs (cutS x (some i) none) = (cs x).drop i.toNat := by
  unfold cutS; rw [cs_ofC, cut_hi _ h]
/-- one name: a base, another sign put in, cut -/
theorem nm_made {base : Str} {at' n : Nat} {c : Nat} {x : Str} (hb : (cs base).length = 7) (hl : ∀ d ∈ cs base, 97 ≤ d ∧ d ≤ 122) (ha : at' ≤ 5) (hc : 97 ≤ c ∧ c ≤ 122) (hn : at' + 1 ≤ n) (hn8 : n ≤ 8)
    (hx : cs x = ((cs base).take at' ++ [c] ++ (cs base).drop at').take n) : isNm x ∧ (cs x)[at']? = some c := by
  have len : (cs x).length = n := by
    rw [hx, List.length_take, List.length_append, List.length_append, List.length_take, List.length_drop, hb]
    simp
    omega
  refine ⟨⟨by rw [← cs_len]; omega, by rw [← cs_len]; omega, fun d hd => ?_⟩, ?_⟩
  · rw [hx] at hd
    have := List.mem_of_mem_take hd
    simp only [List.mem_append, List.mem_singleton] at this
    rcases this with (h | h) | h
    · exact hl d (List.mem_of_mem_take h)
    · rw [h]; exact hc
    · exact hl d (List.mem_of_mem_drop h)
  · rw [hx, List.getElem?_take, if_pos (by omega), List.append_assoc, List.getElem?_append_right (by rw [List.length_take]; omega), List.length_take, hb, Nat.min_eq_left (by omega)]
    simp
/-- the names so far: the k-th has the sign at' + its own -/
def Nms (at' : Nat) (m : Int) (i : Nat) (ss : List Str) : Prop := ss.length = i ∧ ss.Nodup ∧ (∀ s ∈ ss, isNm s) ∧ ∀ s ∈ ss, ∃ j, j < i ∧ (cs s)[at']? = some (97 + ((m + (j : Int)) % 26).toNat)
theorem Nms.nil (at' : Nat) (m : Int) : Nms at' m 0 [] := ⟨rfl, List.nodup_nil, fun _ h => absurd h (by simp), fun _ h => absurd h (by simp)⟩
theorem Nms.snoc {at' : Nat} {m : Int} {i : Nat} {ss : List Str} {x : Str} (h : Nms at' m i ss) (hi : i < 26) (hx : isNm x) (hc : (cs x)[at']? = some (97 + ((m + (i : Int)) % 26).toNat)) : Nms at' m (i + 1) (ss ++ [x]) := by
  obtain ⟨h1, h2, h3, h4⟩ := h
  refine ⟨by simp [h1], nd_snoc h2 (fun hm => ?_), fun s hs => ?_, fun s hs => ?_⟩
  · obtain ⟨j, hj, e⟩ := h4 x hm
    rw [hc] at e
    have e := Option.some.inj e
    have a1 := Int.emod_nonneg (m + (i : Int)) (show (26 : Int) ≠ 0 by decide)
    have a2 := Int.emod_nonneg (m + (j : Int)) (show (26 : Int) ≠ 0 by decide)
    omega
  · rcases List.mem_append.mp hs with q | q
    · exact h3 s q
    · rw [List.mem_singleton.mp q]; exact hx
  · rcases List.mem_append.mp hs with q | q
    · obtain ⟨j, hj, e⟩ := h4 s q; exact ⟨j, by omega, e⟩
    · rw [List.mem_singleton.mp q]; exact ⟨i, by omega, hc⟩
/-! ### nets -/
structure GNet (ks : List Str) (f : Str → Row) (B : Int) : Prop where
  sym : ∀ x y, x ∈ ks → y ∈ ks → look (f x) y = look (f y) x
  irr : ∀ x, x ∈ ks → look (f x) x = none
  val : ∀ x y v, x ∈ ks → look (f x) y = some v → y ∈ ks ∧ 1 ≤ v ∧ v ≤ B
  nd : ∀ x, x ∈ ks → ((f x).map (·.1)).Nodup
theorem GNet.nil (ks : List Str) (B : Int) : GNet ks (fun _ => []) B := ⟨fun _ _ _ _ => rfl, fun _ _ => rfl, fun _ _ _ _ h => (by cases h), fun _ _ => List.nodup_nil⟩
def putR (f : Str → Row) (x y : Str) (v : Int) : Str → Row := fun z => if z = x then put (f x) y v else f z
theorem putR_at (f : Str → Row) (x y : Str) (v : Int) : putR f x y v x = put (f x) y v := by unfold putR; rw [if_pos rfl]
theorem putR_ne {f : Str → Row} {x y : Str} {v : Int} {z : Str} (h : z ≠ x) : putR f x y v z = f z := by unfold putR; rw [if_neg h]
/-- a line is laid both ways -/
def putB (f : Str → Row) (x y : Str) (v : Int) : Str → Row := putR (putR f x y v) y x v
theorem look_putB {f : Str → Row} {x y : Str} {v : Int} (h : x ≠ y) (a b : Str) : look (putB f x y v a) b = if (a = x ∧ b = y) ∨ (a = y ∧ b = x) then some v else look (f a) b := by
  unfold putB
  by_cases h1 : a = y
  · subst h1
    rw [putR_at, look_put, putR_ne (Ne.symm h)]
    by_cases h2 : x = b
    · subst h2; simp
    · have h2' : ¬ b = x := fun q => h2 q.symm
      have h3 : ¬ a = x := fun q => h q.symm
      simp [h2, h2', h3]
  · rw [putR_ne h1]
    by_cases h2 : a = x
    · subst h2
      rw [putR_at, look_put]
      by_cases h3 : y = b
      · subst h3; simp
      · have h3' : ¬ b = y := fun q => h3 q.symm
        simp [h3, h3', h1]
    · rw [putR_ne h2]; simp [h1, h2]
theorem putB_nd {f : Str → Row} {x y : Str} {v : Int} {a : Str} (hx : ((f x).map (·.1)).Nodup) (hy : ((f y).map (·.1)).Nodup) (ha : ((f a).map (·.1)).Nodup) (h : x ≠ y) : ((putB f x y v a).map (·.1)).Nodup := by
  unfold putB
  by_cases h1 : a = y
  · subst h1; rw [putR_at, putR_ne (Ne.symm h)]; exact put_nodup _ _ hy
  · rw [putR_ne h1]
    by_cases h2 : a = x
    · subst h2; rw [putR_at]; exact put_nodup _ _ hx
    · rw [putR_ne h2]; exact ha
theorem GNet.put {ks : List Str} {f : Str → Row} {B : Int} (g : GNet ks f B) {x y : Str} {v : Int} (hx : x ∈ ks) (hy : y ∈ ks) (h : x ≠ y) (h1 : 1 ≤ v) (h2 : v ≤ B) : GNet ks (putB f x y v) B := by
  refine ⟨fun a b ha hb => ?_, fun a ha => ?_, fun a b w ha hw => ?_, fun a ha => putB_nd (g.nd x hx) (g.nd y hy) (g.nd a ha) h⟩
  · rw [look_putB h, look_putB h]
    by_cases c : (a = x ∧ b = y) ∨ (a = y ∧ b = x)
    · rw [if_pos c, if_pos (by rcases c with ⟨p, q⟩ | ⟨p, q⟩ <;> simp [p, q])]
    · rw [if_neg c, if_neg (by rintro (⟨p, q⟩ | ⟨p, q⟩) <;> exact c (by simp [p, q]))]
      exact g.sym a b ha hb
  · rw [look_putB h, if_neg (by rintro (⟨p, q⟩ | ⟨p, q⟩) <;> exact h (by rw [← p, ← q]))]
    exact g.irr a ha
  · rw [look_putB h] at hw
    by_cases c : (a = x ∧ b = y) ∨ (a = y ∧ b = x)
    · rw [if_pos c] at hw
      cases hw
      refine ⟨?_, h1, h2⟩
      rcases c with ⟨p, q⟩ | ⟨p, q⟩
      · rw [q]; exact hy
      · rw [q]; exact hx
    · rw [if_neg c] at hw
      exact g.val a b w ha hw
/-! ### lines -/
abbrev Ln := Str × Str × Int
def norm (l : Ln) : Ln := if sLt l.1 l.2.1 then l else (l.2.1, l.1, l.2.2)
def lineD (l : Ln) : D := .tup [.str l.1, .str l.2.1, .int l.2.2]
def rowL (f : Str → Row) (x : Str) (ys : List Str) : List Ln := (ys.filter fun y => decide (sLt x y)).map fun y => (x, y, (look (f x) y).getD 0)
def linesF (ks : List Str) (f : Str → Row) : List Ln := (sortS ks).flatMap fun x => rowL f x (sortS ((f x).map (·.1)))
theorem mem_rowL {f : Str → Row} {x : Str} {ys : List Str} {l : Ln} : l ∈ rowL f x ys ↔ l.1 = x ∧ l.2.1 ∈ ys ∧ sLt x l.2.1 ∧ l.2.2 = (look (f x) l.2.1).getD 0 := by
  unfold rowL
  rw [List.mem_map]
  constructor
  · rintro ⟨y, hy, rfl⟩
    obtain ⟨a, b⟩ := List.mem_filter.mp hy
    exact ⟨rfl, a, of_decide_eq_true b, rfl⟩
  · rintro ⟨a, b, c, d⟩
    obtain ⟨l1, l2, l3⟩ := l
    exact ⟨l2, List.mem_filter.mpr ⟨b, decide_eq_true c⟩, by simp at a d; rw [a, d]⟩
theorem mem_linesF {ks : List Str} {f : Str → Row} {l : Ln} : l ∈ linesF ks f ↔ l.1 ∈ ks ∧ sLt l.1 l.2.1 ∧ look (f l.1) l.2.1 = some l.2.2 := by
  unfold linesF
  rw [List.mem_flatMap]
  constructor
  · rintro ⟨x, hx, hl⟩
    obtain ⟨a, b, c, d⟩ := mem_rowL.mp hl
    subst a
    refine ⟨mem_sortS.mp hx, c, ?_⟩
    obtain ⟨v, hv⟩ := look_some_iff.mpr (mem_sortS.mp b)
    rw [d, hv]; rfl
  · rintro ⟨a, b, c⟩
    refine ⟨l.1, mem_sortS.mpr a, mem_rowL.mpr ⟨rfl, mem_sortS.mpr (look_some_iff.mp ⟨_, c⟩), b, by rw [c]; rfl⟩⟩
theorem rowL_nodup {f : Str → Row} {x : Str} {ys : List Str} (h : ys.Nodup) : (rowL f x ys).Nodup := by
  unfold rowL
  refine List.Pairwise.map _ (fun a b hab e => ?_) (h.filter _)
  exact hab (by injection e with _ e; injection e)
theorem linesF_nodup {ks : List Str} {f : Str → Row} {B : Int} (hk : ks.Nodup) (g : GNet ks f B) : (linesF ks f).Nodup := by
  unfold linesF
  refine List.pairwise_flatMap.mpr ⟨fun x hx => rowL_nodup (sortS_nodup (g.nd x (mem_sortS.mp hx))), (sortS_nodup hk).imp fun {a b} hab l hl m hm e => ?_⟩
  subst e
  exact hab ((mem_rowL.mp hl).1.symm.trans (mem_rowL.mp hm).1)
/-- a line joins x and y by s -/
def Jn (ls : List Ln) (x y : Str) (s : Int) : Prop := (x, y, s) ∈ ls ∨ (y, x, s) ∈ ls
theorem norm_lt {x y : Str} {s : Int} (h : sLt x y) : norm (x, y, s) = (x, y, s) := by unfold norm; rw [if_pos h]
theorem norm_gt {x y : Str} {s : Int} (h : sLt y x) : norm (x, y, s) = (y, x, s) := by
  unfold norm; rw [if_neg (fun q => sLt_irrefl _ (sLt_trans h q))]
theorem norm_cases (l : Ln) : norm l = l ∨ norm l = (l.2.1, l.1, l.2.2) := by unfold norm; split <;> simp
/-- lines as they may be told, of the net f over ks -/
structure LinesOf (ks : List Str) (f : Str → Row) (B : Int) (ls : List Ln) : Prop where
  perm : (ls.map norm).Perm (linesF ks f)
section
variable {ks : List Str} {f : Str → Row} {B : Int} {ls : List Ln}
theorem LinesOf.jn (h : LinesOf ks f B ls) (g : GNet ks f B) {x y : Str} {s : Int} (hx : x ∈ ks) (hy : y ∈ ks) : Jn ls x y s ↔ look (f x) y = some s := by
  have key : ∀ l : Ln, l ∈ ls.map norm ↔ l.1 ∈ ks ∧ sLt l.1 l.2.1 ∧ look (f l.1) l.2.1 = some l.2.2 := fun l => (h.perm.mem_iff).trans mem_linesF
  constructor
  · rintro (q | q)
    · have := (key _).mp (List.mem_map.mpr ⟨_, q, rfl⟩)
      rcases norm_cases (x, y, s) with e | e
      · rw [e] at this; exact this.2.2
      · rw [e] at this; rw [g.sym x y hx hy]; exact this.2.2
    · have := (key _).mp (List.mem_map.mpr ⟨_, q, rfl⟩)
      rcases norm_cases (y, x, s) with e | e
      · rw [e] at this; rw [g.sym x y hx hy]; exact this.2.2
      · rw [e] at this; exact this.2.2
  · intro q
    have ne : x ≠ y := by rintro rfl; rw [g.irr x hx] at q; cases q
    have fin : ∀ l : Ln, l ∈ ls → norm l = (x, y, s) ∨ norm l = (y, x, s) → Jn ls x y s := fun l hl hn => by
      obtain ⟨a, b, c⟩ := l
      rcases norm_cases (a, b, c) with e | e <;> rw [e] at hn <;> rcases hn with hn | hn <;> cases hn
      · exact .inl hl
      · exact .inr hl
      · exact .inr hl
      · exact .inl hl
    rcases sLt_or (a := x) (b := y) with c | c | c
    · obtain ⟨l, hl, e⟩ := List.mem_map.mp ((key (x, y, s)).mpr ⟨hx, c, q⟩)
      exact fin l hl (.inl e)
    · exact absurd c ne
    · obtain ⟨l, hl, e⟩ := List.mem_map.mp ((key (y, x, s)).mpr ⟨hy, c, by rw [g.sym y x hy hx]; exact q⟩)
      exact fin l hl (.inr e)
theorem LinesOf.mem (h : LinesOf ks f B ls) (g : GNet ks f B) {l : Ln} (hl : l ∈ ls) : l.1 ∈ ks ∧ l.2.1 ∈ ks ∧ l.1 ≠ l.2.1 ∧ 1 ≤ l.2.2 ∧ l.2.2 ≤ B := by
  have := mem_linesF.mp (h.perm.mem_iff.mp (List.mem_map.mpr ⟨_, hl, rfl⟩))
  obtain ⟨a, b, c⟩ := l
  rcases norm_cases (a, b, c) with e | e <;> rw [e] at this <;> obtain ⟨p, q, r⟩ := this <;> obtain ⟨p2, p3, p4⟩ := g.val _ _ _ p r
  · exact ⟨p, p2, fun z => sLt_irrefl _ (by simpa [show a = b from z] using q), p3, p4⟩
  · exact ⟨p2, p, fun z => sLt_irrefl _ (by simpa [show a = b from z] using q), p3, p4⟩
/-- no two lines join the same places -/
def Apart (ls : List Ln) : Prop := ∀ (i j : Nat) (l m : Ln), ls[i]? = some l → ls[j]? = some m → i < j → ¬ ((l.1 = m.1 ∧ l.2.1 = m.2.1) ∨ (l.1 = m.2.1 ∧ l.2.1 = m.1))
theorem norm_eq_of {l m : Ln} (hne : l.1 ≠ l.2.1) (h : (l.1 = m.1 ∧ l.2.1 = m.2.1) ∨ (l.1 = m.2.1 ∧ l.2.1 = m.1)) (hs : l.2.2 = m.2.2) : norm l = norm m := by
  obtain ⟨a, b, c⟩ := l
  obtain ⟨a', b', c'⟩ := m
  simp only at h hs hne
  subst hs
  rcases h with ⟨rfl, rfl⟩ | ⟨rfl, rfl⟩
  · rfl
  · rcases sLt_or (a := a) (b := b) with q | q | q
    · rw [norm_lt q, norm_gt q]
    · exact absurd q hne
    · rw [norm_gt q, norm_lt q]
theorem LinesOf.apart (h : LinesOf ks f B ls) (g : GNet ks f B) (hk : ks.Nodup) : Apart ls := by
  intro i j l m hi hj hij c
  have hl := List.mem_of_getElem? hi
  have hm := List.mem_of_getElem? hj
  obtain ⟨l1, l2, l3, _⟩ := h.mem g hl
  have nd : (ls.map norm).Nodup := (h.perm.nodup_iff).mpr (linesF_nodup hk g)
  have a1 := (h.jn g (x := l.1) (y := l.2.1) (s := l.2.2) l1 l2).mp (.inl hl)
  have a2 : look (f l.1) l.2.1 = some m.2.2 := (h.jn g l1 l2).mp (by
    obtain ⟨a, b, c'⟩ := l
    obtain ⟨a', b', c''⟩ := m
    rcases c with ⟨p, q⟩ | ⟨p, q⟩
    · left; simp only at p q ⊢; rw [p, q]; exact hm
    · right; simp only at p q ⊢; rw [p, q]; exact hm)
  have es : l.2.2 = m.2.2 := Option.some.inj (a1.symm.trans a2)
  have en := norm_eq_of l3 c es
  have p := List.pairwise_iff_getElem.mp nd
  obtain ⟨hi', ei⟩ := List.getElem?_eq_some_iff.mp hi
  obtain ⟨hj', ej⟩ := List.getElem?_eq_some_iff.mp hj
  have := p i j (by simpa using hi') (by simpa using hj') hij
  rw [List.getElem_map, List.getElem_map, ei, ej] at this
  exact this en
end
theorem Jn.snoc {ls : List Ln} {l : Ln} {x y : Str} {s : Int} : Jn (ls ++ [l]) x y s ↔ Jn ls x y s ∨ ((x = l.1 ∧ y = l.2.1) ∨ (x = l.2.1 ∧ y = l.1)) ∧ s = l.2.2 := by
  obtain ⟨a, b, c⟩ := l
  unfold Jn
  simp only [List.mem_append, List.mem_singleton, Prod.mk.injEq]
  constructor
  · rintro ((h | ⟨h1, h2, h3⟩) | (h | ⟨h1, h2, h3⟩))
    · exact .inl (.inl h)
    · exact .inr ⟨.inl ⟨h1, h2⟩, h3⟩
    · exact .inl (.inr h)
    · exact .inr ⟨.inr ⟨h2, h1⟩, h3⟩
  · rintro ((h | h) | ⟨⟨h1, h2⟩ | ⟨h1, h2⟩, h3⟩)
    · exact .inl (.inl h)
    · exact .inr (.inl h)
    · exact .inl (.inr ⟨h1, h2, h3⟩)
    · exact .inr (.inr ⟨h2, h1, h3⟩)
/-- the net that the lines make, so far -/
structure MNet (ss : List Str) (ls : List Ln) (g : Str → Row) : Prop where
  jn : ∀ x y s, x ∈ ss → (look (g x) y = some s ↔ Jn ls x y s)
  nd : ∀ x, x ∈ ss → ((g x).map (·.1)).Nodup
theorem MNet.nil (ss : List Str) : MNet ss [] (fun _ => []) := ⟨fun _ _ _ _ => ⟨fun h => (by cases h), fun h => by rcases h with h | h <;> simp at h⟩, fun _ _ => List.nodup_nil⟩
theorem MNet.put {ss : List Str} {ls : List Ln} {g : Str → Row} (h : MNet ss ls g) {l : Ln} (h1 : l.1 ∈ ss) (h2 : l.2.1 ∈ ss) (hne : l.1 ≠ l.2.1) (hno : look (g l.1) l.2.1 = none) : MNet ss (ls ++ [l]) (putB g l.1 l.2.1 l.2.2) := by
  refine ⟨fun x y s hx => ?_, fun x hx => putB_nd (h.nd _ h1) (h.nd _ h2) (h.nd _ hx) hne⟩
  have no : ∀ t, ¬ Jn ls l.1 l.2.1 t := fun t q => by have := (h.jn _ _ _ h1).mpr q; rw [hno] at this; cases this
  rw [Jn.snoc, look_putB hne, ← h.jn x y s hx]
  by_cases c : (x = l.1 ∧ y = l.2.1) ∨ (x = l.2.1 ∧ y = l.1)
  · rw [if_pos c]
    constructor
    · intro e; exact .inr ⟨c, (Option.some.inj e).symm⟩
    · rintro (e | ⟨_, e⟩)
      · exfalso
        have := (h.jn x y s hx).mp e
        rcases c with ⟨p, q⟩ | ⟨p, q⟩
        · rw [p, q] at this; exact no s this
        · rw [p, q] at this; exact no s this.symm
      · rw [e]
  · rw [if_neg c]
    constructor
    · exact .inl
    · rintro (e | ⟨e, _⟩)
      · exact e
      · exact absurd e c
theorem MNet.none {ss : List Str} {ls : List Ln} {g : Str → Row} {i : Nat} {l : Ln} (h : MNet ss (ls.take i) g) (ap : Apart ls) (hi : ls[i]? = some l) (h1 : l.1 ∈ ss) : look (g l.1) l.2.1 = none := by
  cases e : look (g l.1) l.2.1 with
  | none => rfl
  | some s =>
    exfalso
    have get : ∀ m : Ln, m ∈ ls.take i → ∃ j, j < i ∧ ls[j]? = some m := fun m hm => by
      obtain ⟨j, hj⟩ := List.getElem?_of_mem hm
      rw [List.getElem?_take] at hj
      by_cases c : j < i
      · rw [if_pos c] at hj; exact ⟨j, c, hj⟩
      · rw [if_neg c] at hj; cases hj
    rcases (h.jn _ _ _ h1).mp e with q | q
    · obtain ⟨j, hj, ej⟩ := get _ q
      exact ap j i _ _ ej hi hj (.inl ⟨rfl, rfl⟩)
    · obtain ⟨j, hj, ej⟩ := get _ q
      exact ap j i _ _ ej hi hj (.inr ⟨rfl, rfl⟩)
/-- made of the lines of f it has the lines of f -/
theorem MNet.same {ks ss : List Str} {f g : Str → Row} {B : Int} {ls : List Ln} (m : MNet ss ls g) (h : LinesOf ks f B ls) (gn : GNet ks f B) (p : ss.Perm ks) {x : Str} (hx : x ∈ ss) (y : Str) : look (g x) y = look (f x) y := by
  have hx' := p.mem_iff.mp hx
  apply Option.ext
  intro s
  rw [m.jn x y s hx]
  constructor
  · intro q
    have hy : y ∈ ks := by
      rcases q with q | q
      · exact (h.mem gn q).2.1
      · exact (h.mem gn q).1
    exact (h.jn gn hx' hy).mp q
  · intro q
    have hy := (gn.val _ _ _ hx' q).1
    exact (h.jn gn hx' hy).mpr q
end L2

set_option Elab.async false
set_option linter.all false
set_option maxRecDepth 100000
set_option maxHeartbeats 4000000
/-! steps on a net's dicts (own work) -/
namespace L2
open PySem PySem.Spec PyProof.Rows
theorem nd_len {α : Type} [DecidableEq α] : ∀ {l m : List α}, l.Nodup → (∀ x ∈ l, x ∈ m) → l.length ≤ m.length
  | [], _, _, _ => Nat.zero_le _
  | x :: r, m, h, s => by
    obtain ⟨h1, h2⟩ := List.nodup_cons.mp h
    have hx := s x List.mem_cons_self
    have := nd_len (l := r) (m := m.erase x) h2 (fun y hy => (List.mem_erase_of_ne (fun (e : y = x) => h1 (by rw [← e]; exact hy))).mpr (s y (List.mem_cons_of_mem _ hy)))
    rw [List.length_erase_of_mem hx] at this
    have := List.length_pos_of_mem hx
    rw [List.length_cons]
    omega
theorem nd_inj {α β : Type} {g : α → β} : ∀ {l : List α} {a b : α}, (l.map g).Nodup → a ∈ l → b ∈ l → g a = g b → a = b
  | [], _, _, _, h, _, _ => by simp at h
  | x :: r, a, b, hn, ha, hb, e => by
    rw [List.map_cons] at hn
    obtain ⟨h1, h2⟩ := List.nodup_cons.mp hn
    rcases List.mem_cons.mp ha with p | p <;> rcases List.mem_cons.mp hb with q | q
    · rw [p, q]
    · subst p; exact absurd (List.mem_map.mpr ⟨b, q, e.symm⟩) h1
    · subst q; exact absurd (List.mem_map.mpr ⟨a, p, e⟩) h1
    · exact nd_inj h2 p q e
section
variable {H H' : Hp} {a : Addr} {bs : Outer} {f : Str → Row} {x y : Str} {b : Addr}
theorem mem_addrOf (hk : (bs.map (·.1)).Nodup) (h : (x, b) ∈ bs) : addrOf bs x = some b := by
  obtain ⟨c, hc⟩ := addrOf_some (List.mem_map.mpr ⟨_, h, rfl⟩)
  have := nd_inj hk (addrOf_mem hc) h rfl
  rw [hc]
  exact congrArg some (congrArg Prod.snd this)
theorem NetR.dget (n : NetR H a bs f) (h : addrOf bs x = some b) : DGet H a (.str x) (some (.ref b)) := .inl ⟨_, Sum.inr x, n.out, rfl, by rw [valV_encO, h]; rfl⟩
theorem NetR.dhas (n : NetR H a bs f) : DGet H a (.str x) ((addrOf bs x).map V.ref) := .inl ⟨_, Sum.inr x, n.out, rfl, by rw [valV_encO]⟩
theorem NetR.rget (n : NetR H a bs f) (h : addrOf bs x = some b) : DGet H b (.str y) ((look (f x) y).map V.int) := .inl ⟨_, Sum.inr y, n.inn _ (addrOf_mem h), rfl, by rw [valV_enc]⟩
theorem NetR.rget' (n : NetR H a bs f) (h : addrOf bs x = some b) {v : Int} (e : look (f x) y = some v) : DGet H b (.str y) (some (.int v)) := by have := n.rget (y := y) h; rw [e] at this; exact this
theorem NetAt.ne (n : NetAt H a bs f) (h : addrOf bs x = some b) : b ≠ a := fun e => by
  have := (List.nodup_cons.mp n.nd).1
  exact this (e ▸ List.mem_map.mpr ⟨_, addrOf_mem h, rfl⟩)
theorem NetAt.put (n : NetAt H a bs f) (h : addrOf bs x = some b) (v : Int) (y : Str) (hl : (f x).length < sizeLine) : DPut H b (.str y) (.int v) (upd H b (.dK (encI (put (f x) y v)))) ∧ NetAt (upd H b (.dK (encI (put (f x) y v)))) a bs (putR f x y v) := by
  have hb := n.inn _ (addrOf_mem h)
  have p := DPut.k (k := Sum.inr y) (v := .int v) hb (by rw [encI_len]; exact hl)
  rw [encI_put] at p
  refine ⟨p, ?_, fun q hq => ?_, n.ks, n.nd⟩
  · rw [upd_ne (n.ne h).symm]; exact n.out
  · by_cases e : q.2 = b
    · have : q = (x, b) := nd_inj (List.nodup_cons.mp n.nd).2 hq (addrOf_mem h) e
      subst this
      rw [upd_same, putR_at]
    · rw [upd_ne e, putR_ne (fun z => e ?_)]
      · exact n.inn q hq
      · have : q = (x, b) := nd_inj n.ks hq (addrOf_mem h) z
        rw [this]
theorem encO_put (h : x ∉ bs.map (·.1)) : putK (encO bs) (Sum.inr x) (.ref b) = encO (bs ++ [(x, b)]) := by
  rw [putK_new]
  · unfold encO; rw [List.map_append]; rfl
  · rw [valV_encO, addrOf_none.mpr h]; rfl
theorem NetAt.add (n : NetAt H a bs f) (hx : x ∉ bs.map (·.1)) (hp : H b = none) (hl : bs.length < sizeLine) (hf : f x = []) :
    DPut (upd H b (.dK [])) a (.str x) (.ref b) (upd (upd H b (.dK [])) a (.dK (encO (bs ++ [(x, b)])))) ∧ NetAt (upd (upd H b (.dK [])) a (.dK (encO (bs ++ [(x, b)])))) a (bs ++ [(x, b)]) f := by
  have ab : a ≠ b := ne_of_none n.out hp
  have hn : ∀ q ∈ bs, q.2 ≠ b := fun q hq => ne_of_none (n.inn q hq) hp
  have p := DPut.k (H := upd H b (.dK [])) (k := Sum.inr x) (v := .ref b) (by rw [upd_ne ab]; exact n.out) (by unfold encO; rw [List.length_map]; exact hl)
  rw [encO_put hx] at p
  refine ⟨p, upd_same, fun q hq => ?_, ?_, ?_⟩
  · rcases List.mem_append.mp hq with c | c
    · have h1 : q.2 ≠ a := fun e => (List.nodup_cons.mp n.nd).1 (e ▸ List.mem_map.mpr ⟨_, c, rfl⟩)
      rw [upd_ne h1, upd_ne (hn q c)]; exact n.inn q c
    · rw [List.mem_singleton.mp c]
      show upd _ _ _ b = some (.dK (encI (f x)))
      rw [upd_ne ab.symm, upd_same, hf]; rfl
  · rw [List.map_append]; exact nd_snoc n.ks hx
  · rw [List.map_append, ← List.cons_append]
    refine nd_snoc n.nd (fun h => ?_)
    rcases List.mem_cons.mp h with e | e
    · exact ab e.symm
    · obtain ⟨q, hq, e⟩ := List.mem_map.mp e
      exact hn q hq e
end
/-- all of a net's addresses are new since H -/
def New (H : Hp) (a : Addr) (bs : Outer) : Prop := H a = none ∧ ∀ p ∈ bs, H p.2 = none
theorem New.same {H H' : Hp} {a : Addr} {bs : Outer} (n : New H' a bs) (s : Same H H') : New H a bs := ⟨s.free n.1, fun p hp => s.free (n.2 p hp)⟩
theorem NetR.row {H : Hp} {a : Addr} {bs : Outer} {f : Str → Row} (n : NetR H a bs f) {x : Str} (hx : x ∈ bs.map (·.1)) : ∃ b, addrOf bs x = some b ∧ Rd H b (.dK (encI (f x))) := by
  obtain ⟨b, h⟩ := addrOf_some hx
  exact ⟨b, h, n.inn _ (addrOf_mem h)⟩
/-- a Python list of lines -/
def LinesAt (K : PySem.W.Frag) (H : Hp) (p : Addr) (ls : List Ln) : Prop := ∃ xs, H p = some (.lst xs) ∧ Reps K H xs (ls.map lineD)
theorem LinesAt.same {K : PySem.W.Frag} {H H' : Hp} {p : Addr} {ls : List Ln} (h : LinesAt K H p ls) (s : Same H H') : LinesAt K H' p ls := by
  obtain ⟨xs, a, b⟩ := h; exact ⟨xs, s _ _ a, b.sm s.sm⟩
theorem Reps.line {K : PySem.W.Frag} {H : Hp} {xs : List V} {ls : List Ln} {i : Nat} {v : V} (h : Reps K H xs (ls.map lineD)) (e : xs[i]? = some v) : ∃ l a, ls[i]? = some l ∧ v = .ref a ∧ SqT K H a [.str l.1, .str l.2.1, .int l.2.2] := by
  obtain ⟨d, hd, r⟩ := h.get' e
  rw [List.getElem?_map] at hd
  cases q : ls[i]? with
  | none => rw [q] at hd; cases hd
  | some l =>
    rw [q] at hd
    cases hd
    unfold lineD at r
    cases r with
    | tup h1 h2 =>
      cases h2 with
      | cons a t => cases t with
        | cons b t => cases t with
          | cons c t => cases t; cases a; cases b; cases c; exact ⟨l, _, rfl, rfl, h1⟩
theorem Reps.perm {K : PySem.W.Frag} {H : Hp} {xs ys : List V} {ds : List D} (p : ys.Perm xs) (h : Reps K H xs ds) : ∃ es : List D, es.Perm ds ∧ Reps K H ys es := by
  induction p generalizing ds with
  | nil => cases h; exact ⟨[], .nil, .nil⟩
  | cons x _ ih =>
    cases h with
    | cons a t => obtain ⟨es, p1, p2⟩ := ih t; exact ⟨_ :: es, p1.cons _, .cons a p2⟩
  | swap x y l =>
    cases h with
    | cons a t => cases t with
      | cons b t => exact ⟨_ :: _ :: _, .swap _ _ _, .cons b (.cons a t)⟩
  | trans _ _ ih1 ih2 =>
    obtain ⟨es, p1, p2⟩ := ih2 h
    obtain ⟨es', p3, p4⟩ := ih1 p2
    exact ⟨es', p3.trans p1, p4⟩
theorem perm_map_inv {α β : Type} {g : α → β} {l : List α} {m : List β} (p : m.Perm (l.map g)) : ∃ l' : List α, l'.Perm l ∧ l'.map g = m := by
  generalize hm : l.map g = m' at p
  induction p generalizing l with
  | nil => exact ⟨[], by cases l with | nil => exact .nil | cons _ _ => simp at hm, rfl⟩
  | cons x _ ih =>
    cases l with
    | nil => simp at hm
    | cons a r =>
      simp at hm
      obtain ⟨l', p1, p2⟩ := ih hm.2
      exact ⟨a :: l', p1.cons _, by simp [p2, hm.1]⟩
  | swap x y l0 =>
    cases l with
    | nil => simp at hm
    | cons a r =>
      cases r with
      | nil => simp at hm
      | cons b r =>
        simp at hm
        exact ⟨b :: a :: r, .swap _ _ _, by simp [hm]⟩
  | trans _ _ ih1 ih2 =>
    obtain ⟨l1, p1, p2⟩ := ih2 hm
    obtain ⟨l2, p3, p4⟩ := ih1 p2
    exact ⟨l2, p3.trans p1, p4⟩
theorem LinesAt.perm {K : PySem.W.Frag} {H : Hp} {xs ys : List V} {ls : List Ln} (h : Reps K H xs (ls.map lineD)) (p : ys.Perm xs) : ∃ ms : List Ln, ms.Perm ls ∧ Reps K H ys (ms.map lineD) := by
  obtain ⟨es, p1, p2⟩ := Reps.perm p h
  obtain ⟨ms, p3, p4⟩ := perm_map_inv p1
  exact ⟨ms, p3, by rw [p4]; exact p2⟩
end L2

set_option Elab.async false
set_option linter.all false
set_option maxRecDepth 100000
set_option maxHeartbeats 4000000
namespace L2
open PySem PySem.Spec PyProof.Rows
/-- a test without else: both ways meet -/
theorem ifJ {b : Bool} {t : TS} {D : Ends} {σ : St} {H : Hp} (R : St → Hp → Prop) (hN : ∀ σ H, R σ H → D.nx σ H) (hA : b = true → (∀ σ H, R σ H → D.nx σ H) → t D σ H) (hB : b = false → R σ H) : if b = true then t D σ H else tNext D σ H := by
  cases b with
  | true => rw [if_pos rfl]; exact hA rfl hN
  | false => rw [if_neg (by simp)]; exact hN _ _ (hB rfl)
theorem sz {n : Nat} (h : n ≤ 1000) : n ≤ sizeLine := Nat.le_of_lt (small1000 h)
theorem szl {n : Nat} (h : n ≤ 1000) : n < sizeLine := small1000 h
theorem atI0 {α : Type} {x y : α} : atI [x, y] 0 = some x := rfl
theorem atI1 {α : Type} {x y : α} : atI [x, y] 1 = some y := rfl
theorem atI_ix {α β : Type} {g : α → β} {l : List α} {i : Int} (h0 : 0 ≤ i) (h1 : i < l.length) : ∃ x, x ∈ l ∧ l[i.toNat]? = some x ∧ atI (l.map g) i = some (g x) := by
  obtain ⟨k, rfl⟩ := Int.eq_ofNat_of_zero_le h0
  have hk : k < l.length := by omega
  refine ⟨l[k], List.getElem_mem hk, by simp [hk], atI_nat (by simp [hk])⟩
/-- a net that grows over what was there at H -/
def NS (H : Hp) (p : Addr) (ks : List Str) (B : Int) (H2 : Hp) : Prop := ∃ bs f, Same H H2 ∧ NetAt H2 p bs f ∧ bs.map (·.1) = ks ∧ New H p bs ∧ GNet ks f B
theorem Same.netput {H H2 : Hp} {p b : Addr} {bs : Outer} {x : Str} {o : HO} (s : Same H H2) (n : New H p bs) (h : addrOf bs x = some b) : Same H (L2.upd H2 b o) := s.upd (n.2 _ (addrOf_mem h))
theorem row_len {ks : List Str} {f : Str → Row} {B : Int} (g : GNet ks f B) {x : Str} (hx : x ∈ ks) (hk : ks.length ≤ 1000) : (f x).length < sizeLine := by
  refine szl ?_
  have : ((f x).map (·.1)).length ≤ ks.length := nd_len (g.nd x hx) fun y hy => by
    obtain ⟨v, hv⟩ := look_some_iff.mpr hy
    exact (g.val x y v hx hv).1
  rw [List.length_map] at this
  omega
end L2

set_option Elab.async false
set_option linter.all false
set_option maxRecDepth 100000
set_option maxHeartbeats 4000000
namespace L2
open PySem PySem.Spec PyProof.Rows
def mixF (c k : Int) : Int :=
  let n := (c % 2147483647 + 7919 * k + 1) * 48271 % 2147483647
  let m := (n * n + k) % 2147483629
  m * m % 2147483587
theorem mixF_lo (c k : Int) : 0 ≤ mixF c k := Int.emod_nonneg _ (by decide)
theorem mixF_hi (c k : Int) : mixF c k < 2147483587 := Int.emod_lt_of_pos _ (by decide)
def isStr : D → Bool | .str _ => true | _ => false
theorem isiB_str (d : D) : isiB d.ty "str" = isStr d := by cases d <;> rfl
def nameD : D → Bool
  | .str x => decide (1 ≤ x.length) && decide (x.length ≤ 8) && (cs x).all fun c => decide (c ∈ cs lettersS)
  | _ => false
theorem glue_cs (sep : Str) : ∀ (rest : List Str) (acc : Array Nat), (rest.foldl (fun acc p => acc ++ sep.cps ++ p.cps) acc).toList = acc.toList ++ (rest.map fun y => cs sep ++ cs y).flatten
  | [], acc => by simp
  | y :: r, acc => by rw [List.foldl_cons, glue_cs sep r, List.map_cons, List.flatten_cons]; simp [cs]
theorem join_cs (sep x : Str) (rest : List Str) : cs (joinS sep (x :: rest)) = cs x ++ (rest.map fun y => cs sep ++ cs y).flatten := by
  show Array.toList (List.foldl (fun acc (p : Str) => acc ++ sep.cps ++ p.cps) x.cps rest) = _
  exact glue_cs sep rest x.cps
theorem cs_empty : cs "" = [] := by decide +kernel
theorem join_signs : ∀ l : List Nat, cs (joinS "" (l.map fun c => ⟨#[c]⟩)) = l
  | [] => rfl
  | c :: r => by
    rw [List.map_cons, join_cs, List.map_map]
    have : ∀ m : List Nat, (m.map ((fun y => cs "" ++ cs y) ∘ fun c => (⟨#[c]⟩ : Str))).flatten = m := fun m => by
      induction m with
      | nil => rfl
      | cons d m ih => rw [List.map_cons, List.flatten_cons, ih]; simp [cs_empty]; rfl
    rw [this]; rfl
theorem cutS_len (x : Str) (lo hi : Option Int) : (cutS x lo hi).length ≤ x.length := by
  rw [← cs_len, ← cs_len]; unfold cutS; rw [cs_ofC]; exact cutC_len _ _ _
theorem str_len (x y : Str) : (x ++ y).length = x.length + y.length := by rw [← cs_len, cs_append, List.length_append, cs_len, cs_len]
theorem pick2b {P : Int → Prop} {x y c : Int} (hx : P x) (hy : P y) : ∃ v, P v ∧ atI [V.int x, V.int y] (c % 2) = some (V.int v) := by
  have : c % 2 = 0 ∨ c % 2 = 1 := by omega
  rcases this with h | h <;> rw [h]
  · exact ⟨x, hx, rfl⟩
  · exact ⟨y, hy, rfl⟩
theorem pick2 {x y c : Int} : ∃ v, atI [V.int x, V.int y] (c % 2) = some (V.int v) := by
  have : c % 2 = 0 ∨ c % 2 = 1 := by omega
  rcases this with h | h <;> rw [h]
  · exact ⟨x, rfl⟩
  · exact ⟨y, rfl⟩
theorem Reps.tups {K : PySem.W.Frag} {H H' : Hp} (h : ∀ a zs, SqT K H a zs → SqT K H' a zs) : ∀ {ls : List Ln} {xs : List V}, Reps K H xs (ls.map lineD) → Reps K H' xs (ls.map lineD)
  | [], _, r => by cases r; exact .nil
  | l :: ls, _, r => by
    rw [List.map_cons] at r ⊢
    cases r with
    | cons a t =>
      refine .cons ?_ (Reps.tups h t)
      unfold lineD at a ⊢
      cases a with
      | tup h1 h2 =>
        cases h2 with
        | cons p1 t1 => cases t1 with
          | cons p2 t2 => cases t2 with
            | cons p3 t3 => cases t3; cases p1; cases p2; cases p3; exact .tup (h _ _ h1) (.cons (.str _) (.cons (.str _) (.cons (.int _) .nil)))
/-- a line is put behind the others -/
theorem LinesAt.snoc {K : PySem.W.Frag} {H : Hp} {p t : Addr} {xs : List V} {ls : List Ln} (h1 : H p = some (.lst xs)) (h2 : Reps K H xs (ls.map lineD)) (ht : H t = none) (l : Ln) :
    LinesAt K (upd (upd H t (.tup [.str l.1, .str l.2.1, .int l.2.2])) p (.lst (xs ++ [.ref t]))) p (ls ++ [l]) := by
  have tp : t ≠ p := fun e => by rw [e, h1] at ht; cases ht
  refine ⟨_, upd_same, ?_⟩
  rw [List.map_append]
  refine Reps.append (Reps.tups (fun a zs q => ?_) h2) (.cons (.tup (.inl (.inl ?_)) (.cons (.str _) (.cons (.str _) (.cons (.int _) .nil)))) .nil)
  · rcases q with q | q
    · have ap : a ≠ p := fun e => by
        subst e
        rcases q with q | ⟨o, q⟩ <;> rw [h1] at q <;> cases q
      have at' : a ≠ t := fun e => by
        subst e
        rcases q with q | ⟨o, q⟩ <;> rw [ht] at q <;> cases q
      rcases q with q | ⟨o, q⟩
      · exact .inl (.inl (by rw [upd_ne ap, upd_ne at']; exact q))
      · exact .inl (.inr ⟨o, by rw [upd_ne ap, upd_ne at']; exact q⟩)
    · exact .inr q
  · rw [upd_ne tp, upd_same]
def hasD (kvs : List (Key × V)) : D → Bool | .str x => (valV kvs (Sum.inr x)).isSome | _ => false
theorem sz' {n : Nat} (h : n ≤ 10000) : n ≤ sizeLine := Nat.le_trans h (by decide)
theorem optget (o : Option Int) : (o.map V.int).getD (.int 0) = .int (o.getD 0) := by cases o <;> rfl
def seenK (ss : List Str) : List (Key × V) := ss.map fun s => (Sum.inr s, .bl true)
theorem nodup_take {α : Type} {l : List α} {i : Nat} {x : α} (h : l.Nodup) (e : l[i]? = some x) : x ∉ l.take i := fun hm => by
  obtain ⟨j, hj⟩ := List.getElem?_of_mem hm
  rw [List.getElem?_take] at hj
  split at hj
  · rename_i hji
    obtain ⟨h1, e1⟩ := List.getElem?_eq_some_iff.mp hj
    obtain ⟨h2, e2⟩ := List.getElem?_eq_some_iff.mp e
    exact List.pairwise_iff_getElem.mp h j i h1 h2 hji (e1.trans e2.symm)
  · cases hj
/-- a loop over a dict's keys that changes other things -/
theorem forDm {o : Obj} {a : Addr} {kvs : List (Key × V)} {H1 H2 : Hp} {g : TG} {tb : TS} {D : Ends} {σ : St} (hr : H1 a = some (.dK kvs)) (fz : Fzn a o kvs H1 H2) (Pv : Nat → St → Hp → Prop) (h0 : H2 = upd H1 a (.frz o (.dK kvs)) → Pv 0 σ H2)
    (hh : ∀ i σ H, Pv i σ H → H a = some (.frz o (.dK kvs)))
    (hs : ∀ i k v σ H, kvs[i]? = some (k, v) → Pv i σ H → g (kV k) σ H fun σ2 H2 => tb { nx := Pv (i + 1), ct := Pv (i + 1), bk := (thawE a o kvs H1 D).nx, rt := (thawE a o kvs H1 D).rt } σ2 H2)
    (hd : ∀ σ H, Pv kvs.length σ H → D.nx σ (upd H a (.dK kvs))) : LoopVC (Itd a o kvs) g tb (thawE a o kvs H1 D) σ H2 := by
  have e2 : H2 = upd H1 a (.frz o (.dK kvs)) := by
    obtain ⟨h, e | ⟨_, e⟩⟩ := fz
    · rw [e, hr] at h; cases h
    · exact e
  refine ⟨fun i m σ H => m = kvs.length - i ∧ i ≤ kvs.length ∧ Pv i σ H, ⟨kvs.length, by simp, Nat.zero_le _, h0 e2⟩, ?_⟩
  rintro i m σ H ⟨rfl, hi, p⟩
  by_cases hlt : i < kvs.length
  · refine .inr ⟨⟨hh _ _ _ p, hlt⟩, Pv (i + 1), fun σ' H' q => ⟨kvs.length - (i + 1), by omega, rfl, hlt, q⟩, ?_⟩
    rintro x H' ⟨rfl, k, v, hx, rfl⟩
    exact hs i k v σ H' hx p
  · have e : i = kvs.length := by omega
    subst e
    refine .inl ⟨⟨hh _ _ _ p, Nat.le_refl _⟩, hh _ _ _ p, fun H3 t => ?_⟩
    rcases t with ⟨_, rfl⟩ | ⟨c, _⟩
    · exact hd σ H p
    · exact absurd hr c
theorem cst_mk {K : PySem.W.Frag} {ns : Addr} {n : Str} {v : Value} {P : Value → Prop} (e : PySem.W.nsIn K ns n = some (some v)) (h : P v) : ∃ v : Value, PySem.W.nsIn K ns n = some (some v) ∧ P v := ⟨v, e, h⟩
theorem flats_map {α : Type} {g : α → D} (h : ∀ a, (g a).flat = true) : ∀ l : List α, D.flats (l.map g) = true
  | [] => rfl
  | a :: r => by rw [List.map_cons]; simp only [D.flats, h a, flats_map h r, Bool.and_true]
theorem deps_map {α : Type} {g : α → D} {m : Nat} (h : ∀ a, (g a).dep ≤ m) : ∀ l : List α, D.deps (l.map g) ≤ m
  | [] => Nat.zero_le _
  | a :: r => by
    rw [List.map_cons]
    have := h a
    have := deps_map h r
    simp only [D.deps]
    omega
def strengthD : D → Bool | .int i => decide (1 ≤ i) && decide (i ≤ 1000000000) | _ => false
theorem encO_get {bs : Outer} {i : Nat} {k : Key} {v : V} (h : (encO bs)[i]? = some (k, v)) : ∃ p, p ∈ bs ∧ k = Sum.inr p.1 ∧ v = .ref p.2 := by
  unfold encO at h
  rw [List.getElem?_map] at h
  cases e : bs[i]? with
  | none => rw [e] at h; cases h
  | some p => rw [e] at h; cases h; exact ⟨p, List.mem_of_getElem? e, rfl, rfl⟩
def NS0 (H : Hp) (p : Addr) (ks : List Str) (g : Str → L2.Row) (H2 : Hp) : Prop := ∃ bs, Same H H2 ∧ NetAt H2 p bs g ∧ bs.map (·.1) = ks ∧ New H p bs
end L2

set_option Elab.async false
set_option linter.all false
set_option maxRecDepth 100000
/-! more of TEXTS: split, partition, f-strings, int(text); try; reversed (own work) -/
namespace L2
open PySem PySem.Spec PyProof.Rows
section
variable {X : Cx}
/-- f-strings -/
abbrev TF := St → Hp → Str → VK → Prop
def PF (X : Cx) (es : List Expr) (t : TF) : Prop :=
  ∀ (pins : List (Addr × Obj)) (s : Shared) (σ : St) (H : Hp) (out : Str) (Q : VK), Inv X pins σ H s → t σ H out Q → wpAny (model X.prog X.w) X.A (joinParts out (evalEach es X.env)) (EP X pins σ Q) X.xe s
def fNil : TF := fun _ H out Q => out.length ≤ sizeLine ∧ Q (.str out) H
def fTxt (x : Str) (r : TF) : TF := fun σ H out Q => (out ++ x).length ≤ sizeLine ∧ r σ H (out ++ x) Q
def fmtV (v : V) (z : Str) : Prop := (∃ y, v = .str y ∧ z = y ∧ y.length ≤ sizeLine) ∨ ∃ i : Int, v = .int i ∧ z = toString i ∧ i.natAbs.log2 < 1920
def fVal (te : TE) (r : TF) : TF := fun σ H out Q => te σ H fun v H1 => ∃ z, fmtV v z ∧ (out ++ z).length ≤ sizeLine ∧ r σ H1 (out ++ z) Q
end
/-- a list, from its end -/
def Itrv (K : PySem.W.Frag) (a : Addr) (xs : List V) : It :=
  ⟨fun i H => SqL K H a xs ∧ i < xs.length, fun i H x H' => H' = H ∧ xs[xs.length - 1 - i]? = some x, fun i H => SqL K H a xs ∧ i = xs.length⟩
def iRev (K : PySem.W.Frag) (ta : TA) : TI := fun σ H R => ta σ H fun vs H1 => ∃ a xs, vs = [.ref a] ∧ SqL K H1 a xs ∧ R (Itrv K a xs) H1
section
variable {X : Cx} {tg : Expr}
end
end L2

set_option Elab.async false
set_option linter.all false
set_option maxRecDepth 100000
set_option maxHeartbeats 4000000
/-! nets as texts: shown and read (own work) -/
namespace L2
open PySem PySem.Spec PyProof.Rows
/-! ### split is undone join -/
def splitL (c : Nat) : List Nat → List (List Nat)
  | [] => [[]]
  | d :: r => if d = c then [] :: splitL c r else match splitL c r with | [] => [[d]] | p :: ps => (d :: p) :: ps
def joinL (c : Nat) : List (List Nat) → List Nat
  | [] => []
  | [p] => p
  | p :: q :: r => p ++ c :: joinL c (q :: r)
/-! ### numbers -/
abbrev numS (v : Int) : Str := toString v
/-! ### a net's text -/
abbrev c1 (c : Nat) : Str := ⟨#[c]⟩
def endS (f : Str → Row) (x y : Str) : Str := " " ++ y ++ " " ++ numS ((look (f x) y).getD 0)
def ysOf (f : Str → Row) (x : Str) : List Str := (sortS ((f x).map (·.1))).filter fun y => decide (sLt x y)
def tailS (f : Str → Row) (x : Str) : Str := joinS "," ((ysOf f x).map (endS f x))
def rowS (f : Str → Row) (x : Str) : Str := x ++ ":" ++ tailS f x
def netS (ks : List Str) (f : Str → Row) : Str := joinS "\n" ((sortS ks).map (rowS f))
section
variable {ks : List Str} {f : Str → Row} {B : Int}
end
end L2

set_option Elab.async false
set_option linter.all false
set_option maxRecDepth 100000
set_option maxHeartbeats 4000000
namespace L2
open PySem PySem.Spec PyProof.Rows
def figS : Str := "0123456789"
def wrD : D → Bool
  | .str x => decide (1 ≤ x.length) && decide (x.length ≤ 10) && ((cs x).all fun c => decide (c ∈ cs figS)) && (decide (x = "0") || !decide ((cs x).head? = some 48))
  | _ => false
/-- a net that can be shown and read -/
structure GT (ks : List Str) (f : Str → Row) : Prop where
  g : GNet ks f 1000000000
  nm : ∀ x ∈ ks, isNm x
  len : ks.length ≤ 12
  nd : ks.Nodup
section
variable {ks : List Str} {f : Str → Row}
theorem GT.end (h : GT ks f) {x y : Str} (hx : x ∈ ks) (hy : y ∈ (f x).map (·.1)) : y ∈ ks ∧ isNm y ∧ ∃ v, look (f x) y = some v ∧ (look (f x) y).getD 0 = v ∧ 1 ≤ v ∧ v ≤ 1000000000 := by
  obtain ⟨v, hv⟩ := look_some_iff.mpr hy
  obtain ⟨a, b, c⟩ := h.g.val x y v hx hv
  exact ⟨a, h.nm y a, v, hv, by rw [hv]; rfl, b, c⟩
theorem GT.row (h : GT ks f) {x : Str} (hx : x ∈ ks) : (f x).length ≤ 12 := by
  have : ((f x).map (·.1)).length ≤ ks.length := nd_len (h.g.nd x hx) fun y hy => (h.end hx hy).1
  rw [List.length_map] at this
  have := h.len
  omega
/-! ### read back -/
end
end L2

set_option Elab.async false
set_option linter.all false
set_option maxRecDepth 100000
set_option maxHeartbeats 4000000
namespace L2
open PySem PySem.Spec PyProof.Rows
end L2

set_option Elab.async false
set_option linter.all false
set_option maxRecDepth 100000
set_option maxHeartbeats 4000000
/-! EXCEPTIONS: a record that flies out of a frame (own work) -/
namespace L2
open PySem PySem.Spec PyProof.Rows
/-- what a passing exception leaves behind: x has got the entry T; the frames' slots and the entry ahead may be others -/
structure Lft (fs : List Addr) (x : Addr) (oe : Obj) (vs : Array Value) (h h' : Heap) (T : Addr) : Prop where
  keep : ∀ b o, b ∉ fs → b ≠ x → vs[1]? ≠ some (.ref b) → h.get? b = some o → h'.get? b = some o
  slot : ∀ b o, b ∈ fs → h.get? b = some o → ∃ sl, h'.get? b = some { o with slots := sl }
  there : ∀ b o, h.get? b = some o → ∃ o', h'.get? b = some o'
  rc : ∃ (vs' : Array Value) (oT : Obj) (ts : Array Value), h'.get? x = some { oe with data := .fields vs' } ∧ vs'[1]? = some (.ref T) ∧ h'.get? T = some oT ∧ oT.data = .fields ts ∧ ts[3]? = some .none
  new : h.objs.size ≤ T
theorem mapF {o : Obj} {vs : Array Value} (hd : o.data = .fields vs) (f : Array Value → Array Value) : Obj.mapFields f o = { o with data := .fields (f vs) } := by
  obtain ⟨c, d, dt, sl⟩ := o
  cases hd
  rfl
section
variable {M : Model} {A : Around} {E : Value → Shared → Prop} {s : Shared}
/-- the new entry is laid, and the flight ends -/
theorem entry_x {base : Heap} {env : Env} {outer : List Env} {L x : Addr} {oe : Obj} {vs : Array Value} {head : Value} {nx : Bool} {Q : Unit → Shared → Prop} (hfr : A.frames = some (env :: outer)) (hl : s.heap.FunFrames base (env :: outer)) (hf : env.frame = some L)
    (he : s.heap.get? x = some oe) (hd : oe.data = .fields vs) (hsz : 1 < vs.size)
    (h : ∀ h' T, (∀ b o, b ∉ frs (env :: outer) → b ≠ x → s.heap.get? b = some o → h'.get? b = some o) → (∀ b o, b ∈ frs (env :: outer) → s.heap.get? b = some o → ∃ sl, h'.get? b = some { o with slots := sl }) →
      (∃ (vs' : Array Value) (oT : Obj) (ts : Array Value), h'.get? x = some { oe with data := .fields vs' } ∧ vs'[1]? = some (.ref T) ∧ h'.get? T = some oT ∧ oT.data = .fields ts ∧ ts[3]? = some .none) → s.heap.objs.size ≤ T → Q () { s with heap := h' }) :
    wpAny M A (do let a ← frameOf env; let pl ← entryPlaceOf L nx; let b ← EntryCells.newEntry head a .none (rawInt L) .none pl; setField (.ref x) 1 b) (fun _ s' => wpAny M A (setFlight (.ref x) none) Q E s') E s := by
  have hxf : x ∉ frs (env :: outer) := fun hm => by
    obtain ⟨_, o, ho, hnf⟩ := hl.mem hm
    rw [he] at ho; cases ho; exact hnf vs hd
  refine wpAny_bind (wpAny_frameOf_fun hfr hl hf fun g1 s1 => wpAny_bind (wpAny_entryPlaceOf fun pl hpl => ?_))
  unfold EntryCells.newEntry newFields
  refine wpAny_bind (wpAny_newObj_type ?_ (hpl.sizeOk5 _ _ _ _ _))
  generalize hts : ([head, .ref L, .none, rawInt L, .none] ++ (if pl.isEmpty then List.replicate 6 Value.none else pl)).toArray = ts
  have hts3 : 3 < ts.size := by rw [← hts]; simp only [List.size_toArray, List.length_append, List.length_cons, List.length_nil]; omega
  have sz1 : g1.objs.size = s.heap.objs.size := s1.1
  have hx1 : g1.get? x = some oe := (s1.2.1 x hxf).trans he
  have hx2 : (g1.push { cls := .type "traceback", data := .fields ts }).get? x = some oe := Heap.get?_push_of_some _ hx1
  have hTx : g1.objs.size ≠ x := Nat.ne_of_gt (Heap.lt_size hx1)
  refine wpAny_setField hx2 hd hsz ?_
  have hd3 := Obj.data_mapFields hd (·.setIfInBounds 1 (Value.ref g1.objs.size))
  have hx3 := Heap.get?_update_self (Obj.mapFields (·.setIfInBounds 1 (Value.ref g1.objs.size))) hx2 (Obj.isFreed_of_fields hd3)
  have hT3 : ((g1.push { cls := .type "traceback", data := .fields ts }).update x (Obj.mapFields (·.setIfInBounds 1 (Value.ref g1.objs.size)))).get? g1.objs.size = some { cls := .type "traceback", data := .fields ts } :=
    (Heap.get?_update_other _ _ (Ne.symm hTx)).trans (Heap.get?_push_size g1 rfl)
  unfold setFlight
  refine wpAny_bind (wpAny_field hx3 hd3 (x := .ref g1.objs.size) (by simp [hsz]) ?_)
  rw [if_pos (by simp : (Value.ref g1.objs.size != Value.none) = true)]
  refine wpAny_setField hT3 rfl hts3 (h _ g1.objs.size (fun b o hb hbx e => ?_) (fun b o hb e => ?_) ?_ (Nat.le_of_eq sz1.symm))
  · have e1 : g1.get? b = some o := (s1.2.1 b hb).trans e
    rw [Heap.get?_update_other _ _ (Nat.ne_of_gt (Heap.lt_size e1)), Heap.get?_update_other _ _ (Ne.symm hbx)]
    exact Heap.get?_push_of_some _ e1
  · obtain ⟨sl, e1⟩ := s1.2.2 b o e
    refine ⟨sl, ?_⟩
    rw [Heap.get?_update_other _ _ (Nat.ne_of_gt (Heap.lt_size e1)), Heap.get?_update_other _ _ (fun (q : x = b) => hxf (by rw [q]; exact hb))]
    exact Heap.get?_push_of_some _ e1
  · refine ⟨vs.setIfInBounds 1 (.ref g1.objs.size), _, _, ?_, by simp [hsz], Heap.get?_update_self _ hT3 (Obj.isFreed_of_fields (Obj.data_mapFields rfl _)), Obj.data_mapFields rfl _, ?_⟩
    · rw [Heap.get?_update_other _ _ hTx, hx3, mapF hd]
    · simp [hts3]
/-- an exception leaves a frame -/
theorem leave_x {base : Heap} {env : Env} {outer : List Env} {L x : Addr} {oe : Obj} {vs : Array Value} {Q : Unit → Shared → Prop} (hfr : A.frames = some (env :: outer)) (hl : s.heap.FunFrames base (env :: outer)) (hf : env.frame = some L)
    (he : s.heap.get? x = some oe) (hd : oe.data = .fields vs) (h1 : vs[1]? = some .none ∨ ∃ T0 oT ts, vs[1]? = some (.ref T0) ∧ T0 ≠ x ∧ s.heap.get? T0 = some oT ∧ oT.data = .fields ts ∧ ts[3]? = some Value.none)
    (h : ∀ h' T, Lft (frs (env :: outer)) x oe vs s.heap h' T → Q () { s with heap := h' }) : wpAny M A (leaving env (.ref x)) Q E s := by
  unfold leaving noteFrame
  simp only [hf]
  rcases h1 with h1 | ⟨T0, oT, ts, h1, hTx, hT, hdT, h3⟩
  · refine wpAny_bind (wpAny_bind (wpAny_field he hd h1 ?_))
    rw [if_neg (by decide)]
    refine entry_x hfr hl hf he hd (Array.getElem?_eq_some_iff.mp h1).1 fun h' T k1 k2 k3 k4 => h h' T ⟨fun b o hb hbx _ e => k1 b o hb hbx e, k2, fun b o e => ?_, k3, k4⟩
    by_cases c : b ∈ frs (env :: outer)
    · obtain ⟨sl, q⟩ := k2 b o c e; exact ⟨_, q⟩
    · by_cases c2 : b = x
      · obtain ⟨_, _, _, q, _⟩ := k3; exact ⟨_, c2 ▸ q⟩
      · exact ⟨o, k1 b o c c2 e⟩
  · refine wpAny_bind (wpAny_bind (wpAny_field he hd h1 ?_))
    rw [if_pos (by simp : (Value.ref T0 != Value.none) = true)]
    refine wpAny_bind (wpAny_field hT hdT h3 ?_)
    rw [if_neg (by simp [rawInt] : ¬ ((Value.none == rawInt L) = true))]
    refine wpAny_bind (wpAny_setField hT hdT (Array.getElem?_eq_some_iff.mp h3).1 ?_)
    have oth : ∀ b, b ≠ T0 → (s.heap.update T0 (Obj.mapFields (·.setIfInBounds 3 Value.none))).get? b = s.heap.get? b := fun b hb => Heap.get?_update_other _ _ (Ne.symm hb)
    have hTf : T0 ∉ frs (env :: outer) := fun hm => by
      obtain ⟨_, o, ho, hnf⟩ := hl.mem hm
      rw [hT] at ho; cases ho; exact hnf ts hdT
    have hTn := Heap.get?_update_self (Obj.mapFields (·.setIfInBounds 3 Value.none)) hT (Obj.isFreed_of_fields (Obj.data_mapFields hdT _))
    have hl' : (s.heap.update T0 (Obj.mapFields (·.setIfInBounds 3 Value.none))).FunFrames base (env :: outer) := hl.of_keeps fun b o hb hnf => ⟨o, (oth b fun q => by subst q; rw [hT] at hb; cases hb; exact hnf ts hdT).trans hb, rfl⟩
    have hsz : (s.heap.update T0 (Obj.mapFields (·.setIfInBounds 3 Value.none))).objs.size = s.heap.objs.size := Heap.size_after_update ..
    refine entry_x hfr hl' hf ((oth x (Ne.symm hTx)).trans he) hd (Array.getElem?_eq_some_iff.mp h1).1 fun h' T k1 k2 k3 k4 => h h' T ⟨fun b o hb hbx hbT e => k1 b o hb hbx ((oth b fun q => hbT (by rw [q]; exact h1)).trans e), fun b o hb e => k2 b o hb ((oth b fun q => hTf (q ▸ hb)).trans e), fun b o e => ?_, k3, by rw [← hsz]; exact k4⟩
    by_cases c : b ∈ frs (env :: outer)
    · obtain ⟨sl, q⟩ := k2 b o c ((oth b fun q => hTf (q ▸ c)).trans e); exact ⟨_, q⟩
    · by_cases c2 : b = x
      · obtain ⟨_, _, _, q, _⟩ := k3; exact ⟨_, c2 ▸ q⟩
      · by_cases c3 : b = T0
        · subst c3; exact ⟨_, k1 b _ c c2 hTn⟩
        · exact ⟨o, k1 b o c c2 ((oth b c3).trans e)⟩
end
end L2

set_option Elab.async false
set_option linter.all false
set_option maxRecDepth 100000
set_option maxHeartbeats 4000000
namespace L2
open PySem PySem.Spec PyProof.Rows
abbrev bmV : List Value := [.type "ValueError", .type "Exception", .type "BaseException", .type "object"]
/-- a class two steps under ValueError: C under D, which has no __init__ of its own; C's own is fI -/
structure XCls (K : PySem.W.Frag) (C D : Addr) (fI : Addr) : Prop where
  obj : ∃ nm q N bs sn sub ab col dd k0 k1 k2 k3 k5, K.lookup C = some (excClassObj nm q C N bs (.ref D :: bmV) true sn sub ab col dd k0 k1 k2 k3 k5 "ValueError.__new__")
  tl : ∀ h : Heap, K.In h → OwnTail h bmV (.ref D :: bmV)
  ini : PySem.W.findIn K (.ref C) "__init__" = some (some (.ref fI))
  sa : PySem.W.findIn K (.ref C) "__setattr__" = some (some (.builtin "object.__setattr__"))
  fn : PySem.W.isFn K (.ref fI) = true
  kp : PySem.W.keepIn K (.ref C) = true
section
variable {prog : Program} {w : World} {A : Around} {E : Value → Shared → Prop} {h : Heap} {g : Array GenState} {d : Drawn} {t : Nat} {os : OsState}
variable {nm q : Str} {C N D fI : Addr} {bs : List Value} {sn : List Str} {sub : List Value} {ab : Bool} {col : Option Bool} {dd : Option Addr} {k0 k1 k2 k3 k5 : Option Value}
theorem type_call_I {K : PySem.W.Frag} {rest : List Value} {oI : Obj} {Q : Fin → Shared → Prop} (T : OwnTail h bmV (.ref D :: bmV)) (hC : h.get? C = some (excClassObj nm q C N bs (.ref D :: bmV) true sn sub ab col dd k0 k1 k2 k3 k5 "ValueError.__new__"))
    (KX : K.In h) (hi : PySem.W.findIn K (.ref C) "__init__" = some (some (.ref fI))) (hfI : h.get? fI = some oI) (hfc : oI.cls = .type "function") (hrest : rest.length ≤ sizeLine)
    (hq : ∀ h' e, h.objs.size ≤ e → Heap.MadeExcOf h h' e (.ref C) rest → wpAny (model prog w) A (call (.ref fI) (.ref e :: rest)) (fun r s' => r = .none ∧ Q (.done (.ret (.ref e))) s') E ⟨h', g, d, t, os⟩) :
    wpAny (model prog w) A (Builtin.«type.__call__» ⟨.ref C :: rest, []⟩) Q E ⟨h, g, d, t, os⟩ := by
  have Fv := PySem.F.excBase_ValueError
  have hv : bmV.contains (.type "ValueError") = true := by decide +kernel
  repeat (first | with_reducible refine wpAny_loadPart_at hC ?_ | with_reducible refine wpAny_madeBy_exc hC ?_ | wp_step)
  refine codeAny_call_builtin_code (Code.quiet_builtin _ Fv.quiet) (wpAny_check_new_subU Fv hv T hC (codeAny_exc_new_subU Fv hv Fv T hC ?_ hrest))
  show wpAny _ _ _ _ _ _
  generalize hgg : (h.push { cls := .type "tuple", data := .seq rest.toArray }).push { cls := .ref C, data := .fields #[.ref h.objs.size, .none, .none, .none, .bool false, .none] } = h2
  have old : ∀ b o, h.get? b = some o → h2.get? b = some o := fun b o e => by rw [← hgg]; exact Heap.get?_push_of_some _ (Heap.get?_push_of_some _ e)
  have hget : h2.get? (h.objs.size + 1) = some { cls := .ref C, data := .fields #[.ref h.objs.size, .none, .none, .none, .bool false, .none] } := by rw [← hgg]; heap_get
  have htup : h2.get? h.objs.size = some { cls := .type "tuple", data := .seq rest.toArray } := by rw [← hgg]; exact Heap.get?_push_of_some _ (Heap.get?_push_at rfl rfl)
  have hC2 := old _ _ hC
  have KX2 := KX.keeps old
  have hcC : (Value.ref C :: Value.ref D :: bmV).contains (.ref C) = true := by simp
  unfold isInstance
  repeat (first | with_reducible refine wpAny_loadPart_at hget ?_ | (with_reducible refine wpAny_isSubtype_exc hC2 ?_; rw [hcC]) | wp_step)
  show wpAny _ _ (typeLookup (.ref C) _) _ _ _
  refine PySem.W.looks_findIn KX2 hi _ _ _ _ (fun _ _ z => z) ?_
  refine wpAny_holding (wpAny_bind ?_)
  unfold bindSpecial
  refine wpAny_bind (wpAny_typeOf (T := "function") ⟨_, old _ _ hfI, hfc⟩ ?_)
  rw [if_pos (by decide)]
  refine wpAny_pure (wpAny_bind (wpAny_mono (hq h2 (h.objs.size + 1) (Nat.le_succ _) ⟨old, Heap.get?_none_of_le (Nat.le_succ _), h.objs.size, hget, Heap.get?_none_of_le (Nat.le_refl _), htup⟩) (fun r s' hr => ?_) fun _ _ x => x))
  obtain ⟨rfl, hQ⟩ := hr
  wp_walk
  exact hQ
theorem call_I {K : PySem.W.Frag} {rest : List Value} {oI : Obj} {Q : Value → Shared → Prop} (T : OwnTail h bmV (.ref D :: bmV)) (hC : h.get? C = some (excClassObj nm q C N bs (.ref D :: bmV) true sn sub ab col dd k0 k1 k2 k3 k5 "ValueError.__new__"))
    (KX : K.In h) (hi : PySem.W.findIn K (.ref C) "__init__" = some (some (.ref fI))) (hfI : h.get? fI = some oI) (hfc : oI.cls = .type "function") (hrest : rest.length ≤ sizeLine)
    (hq : ∀ h' e, h.objs.size ≤ e → Heap.MadeExcOf h h' e (.ref C) rest → wpAny (model prog w) (A.under (.builtin "type.__call__" ⟨.ref C :: rest, []⟩)) (call (.ref fI) (.ref e :: rest)) (fun r s' => r = .none ∧ Q (.ref e) s') E ⟨h', g, d, t, os⟩) :
    wpAny (model prog w) A (call (.ref C) rest) Q E ⟨h, g, d, t, os⟩ := by
  have f1 := tc_lookup
  have f2 := tc_bind (.ref C)
  have hT : (⟨h, g, d, t, os⟩ : Shared).TypeIs (.ref C) "type" := ⟨_, hC, rfl⟩
  refine wpAny_call (codeAny_of_tree ?_)
  show wpAny _ _ (callAny (.ref C) _) _ _ _
  repeat (any_goals (first | assumption | with_reducible refine wpAny_loadPart_at hC ?_ | wp_step))
  exact ⟨rfl, codeAny_call_builtin_at (Code.quiet_builtin _ (by decide +kernel)) entry_typeCall (wpAny_check_type_call_sub hC (type_call_I T hC KX hi hfI hfc hrest fun h' e he hm => hq h' e he hm))⟩
/-- self.f = v of an exception -/
theorem check_X {M : Model} {x : Addr} {o : Obj} {nameV v : Value} {Q : Unit → Shared → Prop} (hC : h.get? C = some (excClassObj nm q C N bs (.ref D :: bmV) true sn sub ab col dd k0 k1 k2 k3 k5 "ValueError.__new__")) (hx : h.get? x = some o) (hc : o.cls = .ref C) (hq : Q () ⟨h, g, d, t, os⟩) :
    wpAny M A (checkBuiltinCall "object.__setattr__" ⟨[.ref x, nameV, v], []⟩) Q E ⟨h, g, d, t, os⟩ := by
  have SF := PySem.F.store_ValueError
  have hcB : (Value.ref C :: Value.ref D :: bmV).contains (.type "object") = true := by rw [List.contains_cons, List.contains_cons, show bmV.contains (.type "object") = true by decide +kernel, Bool.or_true, Bool.or_true]
  have ha := SF.args (.ref x) nameV v
  simp only [checkBuiltinCall, SF.kind, SF.split]
  refine wpAny_bind ?_
  unfold isInstance
  repeat (first | (with_reducible refine wpAny_loadPart_at hx ?_; rw [hc]) | (with_reducible refine wpAny_isSubtype_exc hC ?_; rw [hcB]) | wp_step)
  exact hq
/-- what a store leaves -/
def StoX (h h' : Heap) (x C : Addr) (mA : Str → Option Value) (name : Str) (v : Value) : Prop := h'.Inst x C (fun y => if y = name then some v else mA y) ∧ (∀ b o, b ≠ x → (∀ o₀ dx, h.get? x = some o₀ → o₀.dict = some dx → b ≠ dx) → h.get? b = some o → h'.get? b = some o) ∧
  ∀ o₀, h.get? x = some o₀ → ∃ dx, h'.get? x = some { o₀ with dict := some dx } ∧ ((o₀.dict = some dx) ∨ (o₀.dict = none ∧ dx = h.objs.size))
theorem entry_X {x : Addr} {mA : Str → Option Value} {name : Str} {v : Value} {tk : Tok} {Q : Fin → Shared → Prop} {ns : List Str} {K : PySem.W.Frag} (KX : K.In h) (hC : h.get? C = some (excClassObj nm q C N bs (.ref D :: bmV) true sn sub ab col dd k0 k1 k2 k3 k5 "ValueError.__new__"))
    (hna : PySem.W.findIn K (.ref C) name = some none) (I : h.Inst x C mA) (hw : Within mA ns) (hsz : ns.length ≤ 1000) (hq : ∀ h' tk', StoX h h' x C mA name v → Q (.done (.ret .none)) ⟨h', g, d, tk', os⟩) :
    wpAny (model prog w) A (Builtin.«object.__setattr__» ⟨[.ref x, .str name tk, v], []⟩) Q E ⟨h, g, d, t, os⟩ := by
  obtain ⟨o, hx, hc, hnc, hdd⟩ := I
  have hpass := PySem.F.store_ValueError.passes (.ref x)
  have lk : ∀ {n : Str} {r : Option Value} {P : Option Value → Shared → Prop} {A' : Around} {E' : Value → Shared → Prop} {tk : Nat}, PySem.W.findIn K (.ref C) n = some r → P r ⟨h, g, d, tk, os⟩ → wpAny (model prog w) A' (typeLookup (.ref C) n) P E' ⟨h, g, d, tk, os⟩ := fun e hp => PySem.W.looks_findIn KX e _ _ _ _ (fun _ _ z => z) hp
  unfold Builtin.«object.__setattr__»
  repeat (first | rw [refuse_eq] | (rw [refuseLoop_ref, refuseLoop_ref, hpass]) | (with_reducible refine wpAny_loadPart_at hx ?_; rw [hc]) | with_reducible refine wpAny_mroOf_exc hC ?_ | (with_reducible refine lk hna ?_) | wp_step)
  rcases hdd with ⟨hdn, hmA⟩ | ⟨dx, hdx, hne, hns⟩
  · rw [hdn, if_neg (by simp [typeHasDict])]
    split
    · rename_i hcd
      cases hcd
    split
    · rename_i c hcd
      exact absurd hcd (hnc c)
    · have hx1 : (h.push { cls := .type "dict", data := .dict #[] }).get? x = some o := Heap.get?_push_of_some _ hx
      have hxs : x ≠ h.objs.size := Nat.ne_of_lt (Heap.lt_size hx)
      refine wpAny_bind (wpAny_alloc' (wpAny_bind (wpAny_update' hx1 (wpAny_pure ?_))))
      generalize hgg : ((h.push { cls := .type "dict", data := .dict #[] }).update x fun o => { cls := o.cls, dict := some h.objs.size, data := o.data, slots := o.slots }) = h2
      have hgd : h2.get? h.objs.size = some { cls := .type "dict", data := .dict #[] } := by rw [← hgg]; exact (Heap.get?_update_ne _ _ _ _ hxs.symm).trans (Heap.get?_push_at rfl rfl)
      have hnd : h2.Ns h.objs.size (fun _ => none) := ⟨_, #[], _, hgd, rfl, fun e he => absurd he (by simp), fun _ => rfl⟩
      have hx2 : h2.get? x = some { cls := o.cls, dict := some h.objs.size, data := o.data, slots := o.slots } := by
        rw [← hgg]
        refine Heap.get?_update_self _ hx1 ?_
        have hfr := (Heap.get?_some_iff.mp hx).2
        obtain ⟨oc, od, odt, osl⟩ := o
        cases odt <;> first | rfl | exact hfr
      have old2 : ∀ b ob, b ≠ x → h.get? b = some ob → h2.get? b = some ob := fun b ob hbx hb => by rw [← hgg]; exact (Heap.get?_update_ne _ _ _ _ hbx).trans (Heap.get?_push_of_some _ hb)
      show wpAny _ _ (Builtin.ObjectAttr.storeInDict h.objs.size (.str name tk) name v) _ _ _
      unfold Builtin.ObjectAttr.storeInDict Builtin.ObjectAttr.newKeyGuard
      refine wpAny_bind (wpAny_pure (wpAny_bind (wpAny_nsSet1 (Heap.Ns1.of_empty hnd) fun h' hn' hs => ?_)))
      obtain ⟨oD, esD, epD, hoD, hdD, hcD⟩ := hn'.count (Within.cons name v Within.nil)
      refine wpAny_bind (wpAny_lookBehind hoD (by rw [hdD]; exact pastItsLine_dict (Nat.le_trans hcD (by show 1 ≤ sizeLine + 1; exact Nat.succ_le_succ (Nat.zero_le _)))) ?_)
      wp_walk
      have hx' := (hs.2 x hxs).trans hx2
      refine hq h' _ ⟨⟨_, hx', hc, hnc, .inr ⟨h.objs.size, rfl, hxs.symm, ?_⟩⟩, fun b ob hbx _ hb => (hs.2 b (Nat.ne_of_lt (Heap.lt_size hb))).trans (old2 b ob hbx hb), fun o₀ e0 => ?_⟩
      · obtain ⟨o', es, ep, e1, e2, e3, eu, e4⟩ := hn'
        exact ⟨o', es, ep, e1, e2, e3, eu, fun y => by rw [e4 y]; by_cases hy : y = name <;> simp [hy, hmA]⟩
      · obtain rfl : o = o₀ := Option.some.inj (hx.symm.trans e0)
        exact ⟨h.objs.size, hx', .inr ⟨hdn, rfl⟩⟩
  · rw [hdx]
    refine wpAny_pure ?_
    show wpAny _ _ (Builtin.ObjectAttr.storeInDict dx (.str name tk) name v) _ _ _
    unfold Builtin.ObjectAttr.storeInDict Builtin.ObjectAttr.newKeyGuard
    refine wpAny_bind (wpAny_pure (wpAny_bind (wpAny_nsSet1 hns fun h' hn' hs => ?_)))
    obtain ⟨oD, esD, epD, hoD, hdD, hcD⟩ := hn'.count (Within.cons name v hw)
    refine wpAny_bind (wpAny_lookBehind hoD (by rw [hdD]; exact pastItsLine_dict (Nat.le_trans hcD (by rw [List.length_cons]; exact Nat.succ_le_succ (sz' (by omega))))) ?_)
    wp_walk
    have hx' := (hs.2 x hne.symm).trans hx
    refine hq h' _ ⟨⟨o, hx', hc, hnc, .inr ⟨dx, hdx, hne, hn'⟩⟩, fun b ob _ hbd hb => (hs.2 b (hbd o dx hx hdx)).trans hb, fun o₀ e0 => ?_⟩
    obtain rfl : o = o₀ := Option.some.inj (hx.symm.trans e0)
    refine ⟨dx, ?_, .inl hdx⟩
    rw [hx', ← hdx]
theorem store_X {x : Addr} {mA : Str → Option Value} {name : Str} {v : Value} {Q : Unit → Shared → Prop} {ns : List Str} {K : PySem.W.Frag} (KX : K.In h) (hC : h.get? C = some (excClassObj nm q C N bs (.ref D :: bmV) true sn sub ab col dd k0 k1 k2 k3 k5 "ValueError.__new__"))
    (hsa : PySem.W.findIn K (.ref C) "__setattr__" = some (some (.builtin "object.__setattr__"))) (hna : PySem.W.findIn K (.ref C) name = some none) (I : h.Inst x C mA) (hw : Within mA ns) (hsz : ns.length ≤ 1000) (hq : ∀ h' tk', StoX h h' x C mA name v → Q () ⟨h', g, d, tk', os⟩) :
    wpAny (model prog w) A (setAttr (.ref x) name v) Q E ⟨h, g, d, t, os⟩ := by
  obtain ⟨o, hx, hc, _⟩ := id I
  have SF := PySem.F.store_ValueError
  have f3 := SF.slot.bind (.ref x)
  have lk : ∀ {n : Str} {r : Option Value} {P : Option Value → Shared → Prop} {A' : Around} {E' : Value → Shared → Prop} {tk : Nat}, PySem.W.findIn K (.ref C) n = some r → P r ⟨h, g, d, tk, os⟩ → wpAny (model prog w) A' (typeLookup (.ref C) n) P E' ⟨h, g, d, tk, os⟩ := fun e hp => PySem.W.looks_findIn KX e _ _ _ _ (fun _ _ z => z) hp
  unfold setAttr callSpecial? specialOf
  repeat (any_goals (first | assumption | (with_reducible refine wpAny_loadPart_at hx ?_; rw [hc]) | (with_reducible refine lk hsa ?_) | wp_step))
  refine codeAny_call_builtin SF.slot.plain SF.entry (check_X hC hx hc (entry_X KX hC hna I hw hsz fun h' tk' hs => ?_))
  repeat (any_goals (first | assumption | wp_step))
  exact hq h' tk' hs
end
end L2

set_option Elab.async false
set_option linter.all false
set_option maxRecDepth 100000
set_option maxHeartbeats 4000000
namespace L2
open PySem PySem.Spec PyProof.Rows
/-- an exception's record; its dict -/
def ExcAt (x C : Addr) (od : Option Addr) : Heap → Prop := fun h => ∃ vs, h.get? x = some ({ cls := .ref C, dict := od, data := .fields vs } : Obj)
def XdAt (dx : Addr) (fs : List (Str × V)) : Heap → Prop := fun h => ∃ mA, h.Ns1 dx mA ∧ (∀ f, RelO (fs.lookup f) (mA f)) ∧ PySem.Within mA (fs.map (·.1))
theorem excOk {P : Program} {w : World} {H : Hp} {h : Heap} {x C : Addr} {od : Option Addr} (e : ExcAt x C od h) : ObjOk P w H h x (.ext (ExcAt x C od)) :=
  ⟨e, let ⟨_, q⟩ := e; ⟨_, q⟩, fun _ _ ⟨vs, q⟩ k => ⟨vs, k _ q⟩⟩
theorem ns1_at {h1 h2 : Heap} {d : Addr} {m : Str → Option Value} (n : h1.Ns1 d m) (k : ∀ o, h1.get? d = some o → h2.get? d = some o) : h2.Ns1 d m := by
  obtain ⟨o, es, ep, e, r⟩ := n
  exact ⟨o, es, ep, k _ e, r⟩
theorem xdOk {P : Program} {w : World} {H : Hp} {h : Heap} {x : Addr} {fs : List (Str × V)} (e : XdAt x fs h) : ObjOk P w H h x (.ext (XdAt x fs)) := by
  refine ⟨e, ?_, fun _ _ ⟨m, q1, q2, q3⟩ k => ⟨m, ns1_at q1 k, q2, q3⟩⟩
  obtain ⟨m, ⟨o, es, ep, q, _⟩, _⟩ := e
  exact ⟨o, q⟩
/-- its trace: none yet, or an entry that is younger than n and not tracked -/
def Trc (n : Nat) (H : Hp) (x : Addr) (h : Heap) : Prop := ∃ oe vs, h.get? x = some oe ∧ oe.data = .fields vs ∧ (vs[1]? = some Value.none ∨ ∃ T oT ts, vs[1]? = some (.ref T) ∧ T ≠ x ∧ n ≤ T ∧ H T = none ∧ h.get? T = some oT ∧ oT.data = .fields ts ∧ ts[3]? = some Value.none)
/-- an exception that has come out of a call -/
def CXe (P : Program) (w : World) : CXT := fun outer H s E e s' => ∃ (x C : Addr) (od : Option Addr) (H' : Hp), e = .ref x ∧ s'.os = s.os ∧ AllBare s'.gens ∧ Un (frs outer) [] H H' s.heap s'.heap ∧ HOk P w H' s'.heap ∧
  H' x = some (.ext (ExcAt x C od)) ∧ s.heap.objs.size ≤ x ∧ Trc s.heap.objs.size H' x s'.heap ∧ E (.ref x) od H'
section
variable {P : Program} {w : World} {K : PySem.W.Frag} {mg : Str → Option Value} {base : Heap} {N : List Str} {qual : Str} {scope : Scope} {f : Addr} {cd : Value} {A : Around} {outer : List Env} {s₀ s : Shared} {H₀ H : Hp} {E : XK} {pins : List (Addr × Obj)} {σ : St}
/-- a record leaves the def -/
theorem leave_ok {x C : Addr} {od : Option Addr} (I : Inv (cxOf (CXe P w) P w K mg base N qual scope f cd A outer s₀ H₀ E) pins σ H s) (hx : H x = some (.ext (ExcAt x C od))) (hn : s₀.heap.objs.size ≤ x) (ht : Trc s₀.heap.objs.size H x s.heap) (hE : E (.ref x) od H) :
    (cxOf (CXe P w) P w K mg base N qual scope f cd A outer s₀ H₀ E).xe (.ref x) s := by
  obtain ⟨oe, vs, he, hd, h1⟩ := ht
  have hfr : (A.deeper (envOfC qual scope s₀.heap.objs.size f cd)).frames = some (envOfC qual scope s₀.heap.objs.size f cd :: outer) := I.ok.frames
  have hl : s.heap.FunFrames base (envOfC qual scope s₀.heap.objs.size f cd :: outer) := I.stack
  have hfs : frs (envOfC qual scope s₀.heap.objs.size f cd :: outer) = s₀.heap.objs.size :: frs outer := rfl
  refine leave_x hfr hl rfl he hd (h1.imp id fun ⟨T, oT, ts, a1, a2, _, _, a5⟩ => ⟨T, oT, ts, a1, a2, a5⟩) fun h' T L => ?_
  have oeq : ∃ vs', oe = { cls := .ref C, dict := od, data := .fields vs' } := by
    obtain ⟨⟨vs', q⟩, _⟩ := (show ObjOk P w H s.heap x (.ext (ExcAt x C od)) from I.hok x _ hx)
    rw [he] at q
    exact ⟨vs', Option.some.inj q⟩
  obtain ⟨vs0, rfl⟩ := oeq
  have tne : ∀ b, (b < s₀.heap.objs.size ∨ H b ≠ none) → vs[1]? ≠ some (.ref b) := fun b hb e => by
    rcases h1 with q | ⟨T0, _, _, q, _, q1, q2, _⟩
    · rw [q] at e; cases e
    · rw [q] at e
      cases e
      rcases hb with hb | hb
      · exact absurd hb (Nat.not_lt.mpr q1)
      · exact hb q2
  have kp : ∀ b o, H b ≠ none → b ≠ x → s.heap.get? b = some o → h'.get? b = some o := fun b o hb hbx e => L.keep b o (fun hm => hb (I.stkFree b hm)) hbx (tne b (.inr hb)) e
  obtain ⟨vs', oT, ts, r1, r2, r3, r4, r5⟩ := L.rc
  refine ⟨x, C, od, H, rfl, I.os, I.bare, ⟨fun b o e n hb hx' => ?_, fun b o e n hb hx' => ?_, fun b o e n hx' => I.base.free b o e n hx', fun b o e hx' => ?_, I.base.tups, I.base.frzs, I.base.tbls⟩, fun b u e => ?_, hx, hn, ⟨_, vs', r1, rfl, .inr ⟨T, oT, ts, r2, ?_, ?_, I.hok.fresh L.new, r3, r4, r5⟩⟩, hE⟩
  · have lt := Heap.lt_size e
    have q := I.base.keep b o e n hb hx'
    refine L.keep b o (fun hm => ?_) (Nat.ne_of_lt (Nat.lt_of_lt_of_le lt hn)) (tne b (.inl lt)) q
    rw [hfs] at hm
    rcases List.mem_cons.mp hm with z | z
    · exact absurd lt (by rw [z]; exact Nat.lt_irrefl _)
    · exact hb z
  · obtain ⟨sl, q⟩ := I.base.slot b o e n hb hx'
    obtain ⟨sl', q'⟩ := L.slot b _ (by rw [hfs]; exact List.mem_cons_of_mem _ hb) q
    exact ⟨sl', q'⟩
  · obtain ⟨o', q⟩ := I.base.there b o e hx'
    exact L.there b o' q
  · by_cases hb : b = x
    · subst hb
      rw [hx] at e
      cases e
      exact excOk ⟨vs', r1⟩
    · refine (I.hok b u e).stay (fun c v hc q => ?_) (fun c q => q) (fun c xs q => q)
      rcases hc with rfl | hc
      · exact kp c v (by rw [e]; simp) hb q
      · exact kp c v (by rw [hc]; simp) (fun z => by rw [z, hx] at hc; cases hc) q
  · intro z
    have := Heap.lt_size he
    exact absurd L.new (Nat.not_le.mpr (by rw [z]; exact this))
  · exact Nat.le_trans I.sz L.new
/-- THE RULE for a def that may raise -/
theorem Fun.okX {x qual : Str} {st : Stmt} {f : Addr} {fd : FuncData} {N ps : List Str} {k : Nat} {sp : Sp} (F : Fun K x qual st f fd) (S : FnScope N ps (defScope st)) (len : ∀ vs H Q E, sp vs H Q E → vs.length = ps.length)
    (hbody : ∀ (cdv : Value) (A : Around) (outer : List Env) (s : Shared) (H : Hp) (vs : List V) (Q : VK) (E : XK), Room k (A.deeper (envOfC qual (defScope st) s.heap.objs.size f cdv)) → sp vs H Q E →
      ∃ t, PSs (cxOf (CXe P w) P w K mg base N qual (defScope st) f cdv A outer s H E) (defBody st) t ∧ t { nx := fun _ H' => Q .non H', rt := Q } (start N vs) H) : FnOk P w K mg base (CXe P w) (k + 1) f fd ps sp := by
  obtain ⟨oc, od, kV, doc, pm, an, cdv, ct, osl, rfl, lk, hcd⟩ := F.ex
  exact fn_of lk hcd S len fun A outer s H vs Q E hr hsp => hbody cdv A outer s H vs Q E hr hsp
end
end L2

set_option Elab.async false
set_option linter.all false
set_option maxRecDepth 100000
set_option maxHeartbeats 4000000
namespace L2
open PySem PySem.Spec PyProof.Rows
/-- a record that was made and not raised yet -/
def ExcNew (x C : Addr) (od : Option Addr) : Heap → Prop := fun h => ∃ t : Addr, h.get? x = some ({ cls := .ref C, dict := od, data := .fields #[.ref t, .none, .none, .none, .bool false, .none] } : Obj)
theorem excNewOk {P : Program} {w : World} {H : Hp} {h : Heap} {x C : Addr} {od : Option Addr} (e : ExcNew x C od h) : ObjOk P w H h x (.ext (ExcNew x C od)) :=
  ⟨e, let ⟨_, q⟩ := e; ⟨_, q⟩, fun _ _ ⟨vs, q⟩ k => ⟨vs, k _ q⟩⟩
section
variable {X : Cx} {pins : List (Addr × Obj)} {σ : St} {H : Hp} {s : Shared} {A : Around} {E : Value → Shared → Prop} {x C D dx : Addr} {fI : Addr} {f : Str}
theorem Inv.weaken {φ ψ : Heap → Prop} (I : Inv X pins σ H s) (e : H x = some (.ext φ)) (k : φ s.heap → ObjOk X.prog X.w (upd H x (.ext ψ)) s.heap x (.ext ψ)) : Inv X pins σ (upd H x (.ext ψ)) s := by
  obtain ⟨p, ⟨o, ho⟩, _⟩ := (show ObjOk X.prog X.w H s.heap x (.ext φ) from I.hok x _ e)
  exact I.write (x := x) (e := x) (h' := s.heap) (t' := s.toks) (by rw [e]; exact True.intro) (.inl rfl) (fun _ _ _ z => z) ⟨o, ho⟩ (k p)
theorem XCls.at (c : XCls X.K C D fI) (I : Inv X pins σ H s) : ∃ nm q N bs sn sub ab col dd k0 k1 k2 k3 k5, s.heap.get? C = some (excClassObj nm q C N bs (.ref D :: bmV) true sn sub ab col dd k0 k1 k2 k3 k5 "ValueError.__new__") := by
  obtain ⟨nm, q, N, bs, sn, sub, ab, col, dd, k0, k1, k2, k3, k5, l⟩ := c.obj
  exact ⟨nm, q, N, bs, sn, sub, ab, col, dd, k0, k1, k2, k3, k5, I.kIn _ _ l⟩
/-- the first value of a new record -/
theorem xset1 {y : V} {u : Value} {Q : Unit → Shared → Prop} (I : Inv X pins σ H s) (c : XCls X.K C D fI) (hna : NoAttr X.K C f) (e : H x = some (.ext (ExcNew x C none))) (ry : RelV y u)
    (h : ∀ dx s', H dx = none → dx ≠ x → Inv X pins σ (upd (upd H dx (.ext (XdAt dx [(f, y)]))) x (.ext (ExcNew x C (some dx)))) s' → Q () s') : wpAny (model X.prog X.w) A (setAttr (.ref x) f u) Q E s := by
  obtain ⟨nm, q, N, bs, sn, sub, ab, col, dd, k0, k1, k2, k3, k5, hC⟩ := c.at I
  obtain ⟨⟨t, hx⟩, _⟩ := (show ObjOk X.prog X.w H s.heap x (.ext (ExcNew x C none)) from I.hok x _ e)
  have In : s.heap.Inst x C (fun _ => none) := ⟨_, hx, rfl, (fun c z => by cases z), .inl ⟨rfl, fun _ => rfl⟩⟩
  obtain ⟨hp, g, d, tk, os⟩ := s
  refine store_X (ns := []) I.kIn hC c.sa hna In Within.nil (by decide) fun h' tk' st => ?_
  obtain ⟨⟨o1, g1, _, _, g4⟩, k1', k2'⟩ := st
  obtain ⟨dx, hx', hdx⟩ := k2' _ hx
  have hd : dx = hp.objs.size := by
    rcases hdx with z | ⟨_, z⟩
    · cases z
    · exact z
  have hdn : H dx = none := by rw [hd]; exact I.hok.fresh (Nat.le_refl _)
  have dxx : dx ≠ x := by rw [hd]; exact Nat.ne_of_gt (Heap.lt_size hx)
  rw [hx'] at g1
  cases g1
  have ns : h'.Ns1 dx (fun y => if y = f then some u else (fun _ => none) y) := by
    rcases g4 with ⟨z, _⟩ | ⟨d', z, _, z2⟩
    · cases z
    · cases z; exact z2
  have keep : ∀ b o, b ≠ x → hp.get? b = some o → h'.get? b = some o := fun b o hb eb => k1' b o hb (fun o0 dx0 e0 z => by rw [hx] at e0; cases e0; cases z) eb
  have nx : ∀ {b : Addr} {v : Option HO}, H b = v → v ≠ some (.ext (ExcNew x C none)) → b ≠ x := fun q n z => n (by rw [← q, z, e])
  have nd : ∀ {b : Addr} {v : HO}, H b = some v → b ≠ dx := fun q z => by rw [z, hdn] at q; cases q
  refine h dx _ hdn dxx (I.un (h' := h') (t' := tk') ⟨fun b o eb n _ _ => keep b o (nx n (by simp)) eb, fun b o eb n _ _ => ⟨o.slots, keep b o (nx n (by simp)) eb⟩, fun b o eb n _ => ?_, fun b o eb _ => ?_, fun b xs q => ?_, fun b o v q => ?_, fun b ps q => ⟨#[], ?_⟩⟩ fun b v q => ?_)
  · rw [upd_ne (nx n (by simp)), upd_ne (by rw [hd]; exact Nat.ne_of_lt (Heap.lt_size eb))]; exact n
  · by_cases z : b = x
    · subst z; exact ⟨_, hx'⟩
    · exact ⟨o, keep b o z eb⟩
  · rw [upd_ne (nx q (by simp)), upd_ne (nd q)]; exact q
  · rw [upd_ne (nx q (by simp)), upd_ne (nd q)]; exact q
  · rw [upd_ne (nx q (by simp)), upd_ne (nd q), q]; simp
  · by_cases z : b = x
    · subst z
      rw [upd_same] at q
      cases q
      exact excNewOk ⟨t, hx'⟩
    · rw [upd_ne z] at q
      by_cases z2 : b = dx
      · subst z2
        rw [upd_same] at q
        cases q
        refine xdOk ⟨_, ns, fun g => ?_, fun g hg => ?_⟩
        · show RelO (List.lookup g [(f, y)]) (if g = f then some u else none)
          by_cases c : g = f
          · rw [c]; simp only [List.lookup, beq_self_eq_true, if_true]; exact ry
          · have hb : (g == f) = false := beq_eq_false_iff_ne.mpr c
            simp only [List.lookup, hb, if_neg c]; exact trivial
        · by_cases c : g = f
          · simp [c]
          · exact absurd (if_neg c) hg
      · rw [upd_ne z2] at q
        have own : ∀ {c d : Addr}, H c = some (.own d) → upd (upd H dx (.ext (XdAt dx [(f, y)]))) x (.ext (ExcNew x C (some dx))) c = some (.own d) := fun q => by rw [upd_ne (nx q (by simp)), upd_ne (nd q)]; exact q
        refine (I.hok b v q).stay (fun c' w' hc q' => keep c' w' ?_ q') (fun c' q' => own q') (fun c' xs q' => by rw [upd_ne (nx q' (by simp)), upd_ne (nd q')]; exact q')
        rcases hc with rfl | hc
        · exact z
        · exact nx hc (by simp)
/-- .. and the next ones -/
theorem xset2 {y : V} {u : Value} {fs : List (Str × V)} {Q : Unit → Shared → Prop} (I : Inv X pins σ H s) (c : XCls X.K C D fI) (hna : NoAttr X.K C f) (e : H x = some (.ext (ExcNew x C (some dx)))) (ed : H dx = some (.ext (XdAt dx fs))) (dxx : dx ≠ x) (hl : fs.length ≤ 100) (ry : RelV y u)
    (h : ∀ s', Inv X pins σ (upd H dx (.ext (XdAt dx (putF f y fs)))) s' → Q () s') : wpAny (model X.prog X.w) A (setAttr (.ref x) f u) Q E s := by
  obtain ⟨nm, q, N, bs, sn, sub, ab, col, dd, k0, k1, k2, k3, k5, hC⟩ := c.at I
  obtain ⟨⟨t, hx⟩, _⟩ := (show ObjOk X.prog X.w H s.heap x (.ext (ExcNew x C (some dx))) from I.hok x _ e)
  obtain ⟨⟨mA, ns, rel, wi⟩, _⟩ := (show ObjOk X.prog X.w H s.heap dx (.ext (XdAt dx fs)) from I.hok dx _ ed)
  have In : s.heap.Inst x C mA := ⟨_, hx, rfl, (fun c z => by cases z), .inr ⟨dx, rfl, dxx, ns⟩⟩
  obtain ⟨hp, g, d, tk, os⟩ := s
  refine store_X (ns := fs.map (·.1)) I.kIn hC c.sa hna In wi (by rw [List.length_map]; omega) fun h' tk' st => ?_
  obtain ⟨⟨o1, g1, _, _, g4⟩, k1', k2'⟩ := st
  obtain ⟨dx', hx', hdx⟩ := k2' _ hx
  have hdd : dx' = dx := by
    rcases hdx with z | ⟨z, _⟩
    · cases z; rfl
    · cases z
  subst hdd
  rw [hx'] at g1
  cases g1
  have ns' : h'.Ns1 dx' (fun y => if y = f then some u else mA y) := by
    rcases g4 with ⟨z, _⟩ | ⟨d', z, _, z2⟩
    · cases z
    · cases z; exact z2
  refine h _ (I.write (x := dx') (e := dx') (h' := h') (t' := tk') (by rw [ed]; exact True.intro) (.inl rfl) (fun b o hb eb => ?_) ?_ (xdOk ⟨_, ns', fun g => ?_, fun g hg => ?_⟩))
  · by_cases z : b = x
    · subst z
      have eb : hp.get? b = some o := eb
      rw [hx] at eb; cases eb; exact hx'
    · exact k1' b o z (fun o0 dx0 e0 z2 => by rw [hx] at e0; cases e0; cases z2; exact hb) eb
  · obtain ⟨o, es, ep, q, _⟩ := ns'; exact ⟨o, q⟩
  · show RelO ((putF f y fs).lookup g) (if g = f then some u else mA g)
    rw [lookup_putF]
    by_cases c : g = f
    · rw [if_pos c, if_pos c]; exact ry
    · rw [if_neg c, if_neg c]; exact rel g
  · by_cases c : g = f
    · rw [c]; exact (keys_putF f y fs).1
    · exact (keys_putF f y fs).2 g (wi g fun z => hg (by show (if g = f then some u else mA g) = none; rw [if_neg c]; exact z))
end
/-- self.f = value, of a new record -/
def sXset (K : PySem.W.Frag) (ta tv : TE) (f : Str) : TS := fun Dn σ H => tv σ H fun y H1 => ta σ H1 fun v H2 => ∃ x C D fI od, v = .ref x ∧ XCls K C D fI ∧ NoAttr K C f ∧ H2 x = some (.ext (ExcNew x C od)) ∧
  ((od = none ∧ ∀ dx, H2 dx = none → dx ≠ x → Dn.nx σ (upd (upd H2 dx (.ext (XdAt dx [(f, y)]))) x (.ext (ExcNew x C (some dx))))) ∨
   ∃ dx fs, od = some dx ∧ H2 dx = some (.ext (XdAt dx fs)) ∧ dx ≠ x ∧ fs.length ≤ 100 ∧ Dn.nx σ (upd H2 dx (.ext (XdAt dx (putF f y fs)))))
section
variable {X : Cx} {o value : Expr} {f : Str} {pos pos' : Pos} {ta tv : TE}
theorem ps_xset (ha : PE X o ta) (hv : PE X value tv) (hs : swapsWith value (some (.Attribute o f pos')) pos.line X.env = pure false := by rfl) : PS X (.Assign [.Attribute o f pos'] value pos) (sXset X.K ta tv f) := by
  intro pins s σ H Dn I h
  refine plainObj_wpAny_Assign_Attribute (thn (hv pins s σ H _ I h) fun u s1 ⟨y, H1, I1, ry, q⟩ => thn (ha pins s1 σ H1 _ I1 q) fun ov s2 ⟨v, H2, I2, rx, x, C, D, fI, od, ex, c, na, e, q2⟩ => ?_) hs
  subst ex
  obtain rfl : ov = Value.ref x := rx
  rcases q2 with ⟨rfl, q2⟩ | ⟨dx, fs, rfl, ed, dxx, hl, q2⟩
  · exact xset1 I2 c na e ry fun dx s3 n1 n2 I3 => ⟨σ, _, I3, q2 dx n1 n2⟩
  · exact xset2 I2 c na e ed dxx hl ry fun s3 I3 => ⟨σ, _, I3, q2⟩
end
end L2

set_option Elab.async false
set_option linter.all false
set_option maxRecDepth 100000
set_option maxHeartbeats 4000000
namespace L2
open PySem PySem.Spec PyProof.Rows
section
variable {X : Cx} {k : Nat} {C D fI : Addr} {fd : FuncData} {ps : List Str} {sp : Sp}
/-- a record is made: C(..), its __init__ runs -/
theorem run_makeX {pins : List (Addr × Obj)} {σ : St} {H : Hp} {s : Shared} {Q : VK} {us : List Value} {vs : List V} (c : XCls X.K C D fI) (F : FnOk X.prog X.w X.K X.mg X.base CX0 k fI fd ps sp) (hr : Room (k + 1) X.A) (hb : Binds X.K fd ps []) (I : Inv X pins σ H s) (r : Vals vs us) (hl : vs.length ≤ 100)
    (h : ∀ x, H x = none → s.heap.objs.size ≤ x → ∃ Q' : VK, sp (.ref x :: vs) (upd H x (.ext (ExcNew x C none))) Q' E0 ∧ ∀ v H2, Q' v H2 → v = .non ∧ Q (.ref x) H2) : wpAny (model X.prog X.w) X.A (call (.ref C) us) (EP X pins σ Q) X.xe s := by
  obtain ⟨nm, q, N, bs, sn, sub, ab, col, dd, k0, k1, k2, k3, k5, hC⟩ := c.at I
  have hrest : us.length ≤ sizeLine := by rw [← r.length]; exact sz (by omega)
  obtain ⟨oI, hoI, hcI⟩ : ∃ oI, s.heap.get? fI = some oI ∧ oI.cls = .type "function" := by
    have e : PySem.W.typeIn X.K (.ref fI) = some (.type "function") := by simpa [PySem.W.isFn] using c.fn
    simp only [PySem.W.typeIn] at e
    cases hk : X.K.lookup fI with
    | none => rw [hk] at e; cases e
    | some oI => rw [hk] at e; exact ⟨oI, I.kIn _ _ hk, Option.some.inj e⟩
  have T := c.tl _ I.kIn
  obtain ⟨hp, g, d, tk, os⟩ := s
  refine call_I T hC I.kIn c.ini hoI hcI hrest fun h' e he hm => ?_
  obtain ⟨t, ht, htn, htt⟩ := hm.there
  have hn : H e = none := I.hok.fresh he
  have I2 : Inv X pins σ (upd H e (.ext (ExcNew e C none))) ⟨h', g, d, tk, os⟩ := I.laid (t' := tk) hm.keeps he (excNewOk ⟨t, ht⟩)
  obtain ⟨Q', hq, hQ⟩ := h e hn he
  have r2 : Vals (V.ref e :: vs) (Value.ref e :: us) := .cons rfl r
  have hl2 : (Value.ref e :: us).length = ps.length := by rw [← r2.length]; exact F.len _ _ _ _ hq
  have hb2 := hb ⟨h', g, d, tk, os⟩ (Value.ref e :: us) I2.kIn (by rw [List.append_nil]; exact hl2)
  rw [List.append_nil] at hb2
  refine wpAny_call (codeAny_mono (F.run _ X.stack _ _ ⟨Value.ref e :: us, []⟩ (Value.ref e :: us) _ _ E0 (hr.make C us []) (I2.env0.make C us []) hb2 r2 hq) fun r s' hq' => ?_)
  cases r with
  | error e => exact hq'.elim
  | ok fl =>
    cases fl with
    | ret u =>
      obtain ⟨v, H', I3, rv, q3⟩ := I2.after hq'
      obtain ⟨ev, q4⟩ := hQ _ _ q3
      subst ev
      exact ⟨rv, ⟨V.ref e, H', I3, rfl, q4⟩⟩
    | next => exact False.elim hq'
    | brk => exact False.elim hq'
    | cont => exact False.elim hq'
end
/-- raise, of a record that was made just now -/
theorem raise_X {M : Model} {A : Around} {E : Value → Shared → Prop} {s : Shared} {env : Env} {nm q : Str} {C N D : Addr} {bs : List Value} {sn : List Str} {sub : List Value} {ab : Bool} {col : Option Bool} {dd : Option Addr} {k0 k1 k2 k3 k5 : Option Value} {y : Sem Value} {Q : Flow → Shared → Prop} (hh : A.handled = none)
    (h : wpAny M A y (fun v s₁ => ∃ (e t : Addr) (od : Option Addr), v = .ref e ∧ s₁.heap.get? C = some (excClassObj nm q C N bs (.ref D :: bmV) true sn sub ab col dd k0 k1 k2 k3 k5 "ValueError.__new__") ∧
      s₁.heap.get? e = some ({ cls := .ref C, dict := od, data := .fields #[.ref t, .none, .none, .none, .bool false, .none] } : Obj) ∧ E (.ref e) s₁) E s) : wpAny M A (raiseStmt env (some y) none) Q E s := by
  have hcB : (Value.ref C :: Value.ref D :: bmV).contains (.type "BaseException") = true := by rw [List.contains_cons, List.contains_cons, show bmV.contains (.type "BaseException") = true by decide +kernel, Bool.or_true, Bool.or_true]
  unfold raiseStmt
  refine wpAny_bind (wpAny_mono h (fun v s₁ h₁ => ?_) fun _ _ z => z)
  obtain ⟨e, t, od, rfl, hC, he, hE⟩ := h₁
  obtain ⟨hp, g, d, tk, os⟩ := s₁
  repeat (first | with_reducible refine wpAny_loadPart_at he ?_ | with_reducible refine wpAny_loadPart_at hC ?_ | (with_reducible refine wpAny_isSubtype_exc hC ?_; rw [hcB]) | wp_step)
  exact wpAny_raiseNew_none hh hE
/-- what raising asks -/
def tRaise (C : Addr) (sp : Sp) (E : XK) (ta : TA) : TS := fun _ σ H => ta σ H fun vs H1 => vs.length ≤ 100 ∧ ∀ x, H1 x = none → sp (.ref x :: vs) (upd H1 x (.ext (ExcNew x C none))) (fun v H2 => v = .non ∧ ∃ od, H2 x = some (.ext (ExcNew x C od)) ∧ E (.ref x) od (upd H2 x (.ext (ExcAt x C od)))) E0
section
variable {P : Program} {w : World} {K : PySem.W.Frag} {mg : Str → Option Value} {base : Heap} {N : List Str} {qual : Str} {scope : Scope} {f : Addr} {cd : Value} {A : Around} {outer : List Env} {s₀ : Shared} {H₀ : Hp} {E : XK} {k : Nat} {C D fI : Addr} {fd : FuncData} {ps : List Str} {sp : Sp}
theorem ps_raise {x : Str} {np cpos pos : Pos} {e : Expr} {es : List Expr} {ta : TA} (c : XCls K C D fI) (F : FnOk P w K mg base CX0 k fI fd ps sp) (hr : Room (k + 1) (A.deeper (envOfC qual scope s₀.heap.objs.size f cd))) (hb : Binds K fd ps [])
    (hg : Gl (cxOf (CXe P w) P w K mg base N qual scope f cd A outer s₀ H₀ E) x) (hm : mg x = some (.ref C)) (ha : PA (cxOf (CXe P w) P w K mg base N qual scope f cd A outer s₀ H₀ E) (e :: es) ta)
    (hdb : (x == ("__debug__" : Str)) = false := by decide) (he : starEach (e :: es) (cxOf (CXe P w) P w K mg base N qual scope f cd A outer s₀ H₀ E).env = (false, eval e (cxOf (CXe P w) P w K mg base N qual scope f cd A outer s₀ H₀ E).env) :: starEach es (cxOf (CXe P w) P w K mg base N qual scope f cd A outer s₀ H₀ E).env := by rfl)
    (hpl : (backTo cpos (starEach es (cxOf (CXe P w) P w K mg base N qual scope f cd A outer s₀ H₀ E).env)).any (·.1) = false := by rfl) :
    PS (cxOf (CXe P w) P w K mg base N qual scope f cd A outer s₀ H₀ E) (.Raise (some (.Call (.Name x np) (e :: es) [] cpos)) none pos) (tRaise C sp E ta) := by
  intro pins s σ H Dn I h
  obtain ⟨nm, q, N', bs, sn, sub, ab, col, dd, k0, k1, k2, k3, k5, hC⟩ := c.obj
  rw [arm_exec_Raise]
  refine wpAny_bind (wpAny_standAt (raise_X (C := C) (D := D) (nm := nm) (q := q) (N := N') (bs := bs) (sn := sn) (sub := sub) (ab := ab) (col := col) (dd := dd) (k0 := k0) (k1 := k1) (k2 := k2) (k3 := k3) (k5 := k5) (I.ok.hd rfl) ?_))
  have main : wpAny (model P w) (A.deeper (envOfC qual scope s₀.heap.objs.size f cd)) (eval (.Call (.Name x np) (e :: es) [] cpos) (envOfC qual scope s₀.heap.objs.size f cd)) (EP (cxOf (CXe P w) P w K mg base N qual scope f cd A outer s₀ H₀ E) pins σ (fun v H2 => ∃ x od, v = .ref x ∧ s₀.heap.objs.size ≤ x ∧ H2 x = some (.ext (ExcNew x C od)) ∧ E (.ref x) od (upd H2 x (.ext (ExcAt x C od))))) (cxOf (CXe P w) P w K mg base N qual scope f cd A outer s₀ H₀ E).xe s := by
    refine wpAny_Call_Name_kw (ld_glob I hg hm ?_ hdb)
    refine PySem.W.callWith_K (h₀ := base) I.ok.mod.kin c.kp (thn (ha cpos pins s σ H _ I h) fun us s1 ⟨vs, H1, I1, r, hl, q⟩ => ⟨I1.kIn, ?_⟩) he hpl
    refine run_makeX c F hr hb I1 r hl fun x hx hxs => ⟨_, q x hx, fun v H2 ⟨ev, od, q1, q2⟩ => ⟨ev, x, od, rfl, Nat.le_trans I1.sz hxs, q1, q2⟩⟩
  refine wpAny_bind (wpAny_mono main (fun v s3 h3 => wpAny_bind (wpAny_standAt (wpAny_pure ?_))) fun _ _ z => z)
  obtain ⟨v', H2, I2, rv, x, od, rfl, hxs, hx, hE⟩ := h3
  obtain rfl : v = Value.ref x := rv
  obtain ⟨⟨t, ht⟩, _⟩ := (show ObjOk P w H2 s3.heap x (.ext (ExcNew x C od)) from I2.hok x _ hx)
  have I3 := I2.weaken (ψ := ExcAt x C od) hx fun ⟨t, ht⟩ => excOk ⟨_, ht⟩
  refine ⟨x, t, od, rfl, I2.kIn _ _ hC, ht, leave_ok I3 (upd_same ..) hxs ⟨_, _, ht, rfl, .inl rfl⟩ hE⟩
end
end L2

set_option Elab.async false
set_option linter.all false
set_option maxRecDepth 100000
set_option maxHeartbeats 4000000
namespace L2
open PySem PySem.Spec PyProof.Rows
section
variable {M : Model} {A : Around} {E : Value → Shared → Prop} {s : Shared}
/-- an exception is caught: the same two steps, one after the other -/
theorem catch_x {base : Heap} {env : Env} {outer : List Env} {L x : Addr} {oe : Obj} {vs : Array Value} {Q : Unit → Shared → Prop} (hfr : A.frames = some (env :: outer)) (hl : s.heap.FunFrames base (env :: outer)) (hf : env.frame = some L)
    (he : s.heap.get? x = some oe) (hd : oe.data = .fields vs) (h1 : vs[1]? = some .none ∨ ∃ T0 oT ts, vs[1]? = some (.ref T0) ∧ T0 ≠ x ∧ s.heap.get? T0 = some oT ∧ oT.data = .fields ts ∧ ts[3]? = some Value.none)
    (h : ∀ h' T, Lft (frs (env :: outer)) x oe vs s.heap h' T → Q () { s with heap := h' }) : wpAny M A (noteFrame (.ref x) env) (fun _ s' => wpAny M A (setFlight (.ref x) none) Q E s') E s := by
  unfold noteFrame
  simp only [hf]
  rcases h1 with h1 | ⟨T0, oT, ts, h1, hTx, hT, hdT, h3⟩
  · refine wpAny_bind (wpAny_field he hd h1 ?_)
    rw [if_neg (by decide)]
    refine entry_x hfr hl hf he hd (Array.getElem?_eq_some_iff.mp h1).1 fun h' T k1 k2 k3 k4 => h h' T ⟨fun b o hb hbx _ e => k1 b o hb hbx e, k2, fun b o e => ?_, k3, k4⟩
    by_cases c : b ∈ frs (env :: outer)
    · obtain ⟨sl, q⟩ := k2 b o c e; exact ⟨_, q⟩
    · by_cases c2 : b = x
      · obtain ⟨_, _, _, q, _⟩ := k3; exact ⟨_, c2 ▸ q⟩
      · exact ⟨o, k1 b o c c2 e⟩
  · refine wpAny_bind (wpAny_field he hd h1 ?_)
    rw [if_pos (by simp : (Value.ref T0 != Value.none) = true)]
    refine wpAny_bind (wpAny_field hT hdT h3 ?_)
    rw [if_neg (by simp [rawInt] : ¬ ((Value.none == rawInt L) = true))]
    refine wpAny_bind (wpAny_setField hT hdT (Array.getElem?_eq_some_iff.mp h3).1 ?_)
    have oth : ∀ b, b ≠ T0 → (s.heap.update T0 (Obj.mapFields (·.setIfInBounds 3 Value.none))).get? b = s.heap.get? b := fun b hb => Heap.get?_update_other _ _ (Ne.symm hb)
    have hTf : T0 ∉ frs (env :: outer) := fun hm => by
      obtain ⟨_, o, ho, hnf⟩ := hl.mem hm
      rw [hT] at ho; cases ho; exact hnf ts hdT
    have hTn := Heap.get?_update_self (Obj.mapFields (·.setIfInBounds 3 Value.none)) hT (Obj.isFreed_of_fields (Obj.data_mapFields hdT _))
    have hl' : (s.heap.update T0 (Obj.mapFields (·.setIfInBounds 3 Value.none))).FunFrames base (env :: outer) := hl.of_keeps fun b o hb hnf => ⟨o, (oth b fun q => by subst q; rw [hT] at hb; cases hb; exact hnf ts hdT).trans hb, rfl⟩
    have hsz : (s.heap.update T0 (Obj.mapFields (·.setIfInBounds 3 Value.none))).objs.size = s.heap.objs.size := Heap.size_after_update ..
    refine entry_x hfr hl' hf ((oth x (Ne.symm hTx)).trans he) hd (Array.getElem?_eq_some_iff.mp h1).1 fun h' T k1 k2 k3 k4 => h h' T ⟨fun b o hb hbx hbT e => k1 b o hb hbx ((oth b fun q => hbT (by rw [q]; exact h1)).trans e), fun b o hb e => k2 b o hb ((oth b fun q => hTf (q ▸ hb)).trans e), fun b o e => ?_, k3, by rw [← hsz]; exact k4⟩
    by_cases c : b ∈ frs (env :: outer)
    · obtain ⟨sl, q⟩ := k2 b o c ((oth b fun q => hTf (q ▸ c)).trans e); exact ⟨_, q⟩
    · by_cases c2 : b = x
      · obtain ⟨_, _, _, q, _⟩ := k3; exact ⟨_, c2 ▸ q⟩
      · by_cases c3 : b = T0
        · subst c3; exact ⟨_, k1 b _ c c2 hTn⟩
        · exact ⟨o, k1 b o c c2 ((oth b c3).trans e)⟩
end
/-- the entry of a caught record -/
def Ent (x T : Addr) (h : Heap) : Prop := ∃ oe vs oT ts, h.get? x = some oe ∧ oe.data = .fields vs ∧ vs[1]? = some (.ref T) ∧ h.get? T = some oT ∧ oT.data = .fields ts ∧ ts[3]? = some Value.none
section
variable {X : Cx} {pins : List (Addr × Obj)} {σ : St} {H : Hp} {s : Shared} {A : Around} {E : Value → Shared → Prop} {x C T : Addr} {od : Option Addr}
theorem Inv.left {oe : Obj} {vs : Array Value} {h' : Heap} (I : Inv X pins σ H s) (hx : H x = some (.ext (ExcAt x C od))) (he : s.heap.get? x = some oe) (hd : oe.data = .fields vs) (ht : ∀ b, vs[1]? = some (.ref b) → FpOk X pins H b) (L : Lft (frs X.stack) x oe vs s.heap h' T) : Inv X pins σ H { s with heap := h' } := by
  have nx : ∀ {b : Addr}, H b = none → b ≠ x := fun n z => by rw [z, hx] at n; cases n
  obtain ⟨m, ⟨o0, es, ep, ho, r⟩, _⟩ := id I.loc
  have key : ∀ (ch : List Addr), (∀ b, vs[1]? = some (.ref b) → b ∈ ch) → (∀ b ∈ ch, FpOk X pins H b) → Inv X pins σ H { s with heap := h' } := fun ch c1 c2 => by
    have keep : ∀ b o, b ∉ frs X.stack → b ≠ x → b ∉ ch → s.heap.get? b = some o → h'.get? b = some o := fun b o hb hbx hc e => L.keep b o hb hbx (fun z => hc (c1 b z)) e
    have any : ∀ b o, b ≠ x → b ∉ ch → s.heap.get? b = some o → ∃ sl, h'.get? b = some { o with slots := sl } := fun b o hbx hc e => by
      by_cases z : b ∈ frs X.stack
      · exact L.slot b o z e
      · exact ⟨o.slots, keep b o z hbx hc e⟩
    have nch : ∀ {b : Addr} {u : HO}, H b = some u → b ∉ ch := fun q z => by rw [(c2 _ z).1] at q; cases q
    have nst : ∀ {b : Addr} {u : HO}, H b = some u → b ∉ frs X.stack := fun q z => by rw [I.stkFree _ z] at q; cases q
    refine I.step (g' := s.gens) (d' := s.drawn) (t' := s.toks) (ch := ch) (fun b hb => ⟨(c2 b hb).2.2.2.1, (c2 b hb).2.1, (c2 b hb).2.2.2.2.1, (c2 b hb).2.2.2.2.2⟩) (fun b o hL hb hc e n => keep b o (fun z => (List.mem_cons.mp (I.stkSub b z)).elim hL hb) (nx n) hc e) (fun b o _ _ hc e n => any b o (nx n) hc e) (fun _ _ _ _ n => n) (fun b o _ e => L.there b o e) (fun _ _ e => e) (fun _ _ _ e => e) (fun b ps e => ⟨#[], by rw [e]; simp⟩) (fun m' hm => ?_) (fun b u e => ?_) I.bare
    · obtain ⟨o', es', ep', ho', r'⟩ := hm
      obtain ⟨sl, hL⟩ := any X.env.locals o' (nx I.free) (fun z => (c2 _ z).2.1 rfl) ho'
      exact ⟨_, es', ep', hL, r'⟩
    · by_cases hb : b = x
      · subst hb
        rw [hx] at e
        cases e
        obtain ⟨⟨vs0, q0⟩, _⟩ := (show ObjOk X.prog X.w H s.heap b (.ext (ExcAt b C od)) from I.hok b _ hx)
        rw [he] at q0
        obtain rfl := Option.some.inj q0
        obtain ⟨vs', oT, ts, r1, _⟩ := L.rc
        exact excOk ⟨vs', r1⟩
      · refine (I.hok b u e).stay (fun c v hc q => ?_) (fun c q => q) (fun c xs q => q)
        rcases hc with rfl | hc
        · exact keep c v (nst e) hb (nch e) q
        · exact keep c v (nst hc) (fun z => by rw [z, hx] at hc; cases hc) (nch hc) q
  cases hv : vs[1]? with
  | none => exact key [] (fun b z => by rw [hv] at z; cases z) (fun _ z => nomatch z)
  | some w =>
    cases w with
    | ref b => exact key [b] (fun b' z => by rw [hv] at z; cases z; simp) (fun b' z => by
        have e : b' = b := by simpa using z
        rw [e]; exact ht b hv)
    | _ => exact key [] (fun b z => by rw [hv] at z; cases z) (fun _ z => nomatch z)
/-- caught -/
theorem catch_ok {n : Nat} {Q : Unit → Shared → Prop} (I : Inv X pins σ H s) (hst : X.stack = X.env :: X.outer) (hfr : X.env.frame = some X.env.locals) (hx : H x = some (.ext (ExcAt x C od))) (ht : Trc n H x s.heap) (hn : ∀ b, n ≤ b → H b = none → FpOk X pins H b)
    (h : ∀ s' T, Inv X pins σ H s' → FpOk X pins H T → Ent x T s'.heap → Q () s') : wpAny (model X.prog X.w) X.A (noteFrame (.ref x) X.env) (fun _ s' => wpAny (model X.prog X.w) X.A (setFlight (.ref x) none) Q E s') E s := by
  obtain ⟨oe, vs, he, hd, h1⟩ := ht
  refine catch_x (base := X.base) (by rw [← hst]; exact I.ok.frames) (by rw [← hst]; exact I.stack) hfr he hd (h1.imp id fun ⟨T, oT, ts, a1, a2, _, _, a5⟩ => ⟨T, oT, ts, a1, a2, a5⟩) fun h' T L => ?_
  rw [← hst] at L
  have I' := I.left hx he hd (fun b z => by
    rcases h1 with q | ⟨T0, _, _, q, _, q1, q2, _⟩
    · rw [q] at z; cases z
    · rw [q] at z; cases z; exact hn b q1 q2) L
  obtain ⟨vs', oT, ts, r1, r2, r3, r4, r5⟩ := L.rc
  exact h _ T I' (I.fpOk L.new (I.hok.fresh L.new)) ⟨_, vs', oT, ts, r1, rfl, r2, r3, r4, r5⟩
/-- setFlight, once more -/
theorem flight_ok {M : Model} {Q : Unit → Shared → Prop} (I : Inv X pins σ H s) (hT : FpOk X pins H T) (he : Ent x T s.heap) (hx : H x ≠ none) (h : ∀ s', Inv X pins σ H s' → Q () s') : wpAny M A (setFlight (.ref x) none) Q E s := by
  obtain ⟨oe, vs, oT, ts, e1, e2, e3, e4, e5, e6⟩ := he
  unfold setFlight
  refine wpAny_bind (wpAny_field e1 e2 e3 ?_)
  rw [if_pos (by simp : (Value.ref T != Value.none) = true)]
  refine wpAny_setField e4 e5 (Array.getElem?_eq_some_iff.mp e6).1 (h _ (I.turned (it := T) (t' := s.toks) (fun b o hb e => (Heap.get?_update_other _ _ (Ne.symm hb)).trans e) hT.1 hT.2.1 hT.2.2.2.1 hT.2.2.2.2.1 hT.2.2.2.2.2))
/-- the name of an except suite goes -/
theorem goes_ok {M : Model} {i : Nat} {n : Str} {pos : Pos} {Q : Unit → Shared → Prop} (I : Inv X pins σ H s) (hN : X.N.Nodup) (hi : X.N[i]? = some n) (hl : X.env.kindOf n = some .local) (h : ∀ s', Inv X pins (σ.set i none) H s' → Q () s') :
    wpAny M A (do bindName X.env n .none; unbindBehindTheSuite X.env n pos) Q E s := by
  have hp : (X.env.scope.kind == .class || (X.env.scope.kind == .module && X.env.locals != X.env.globals)) = false := by rw [I.ok.kind]; rfl
  refine wpAny_bind (wpAny_bindName (store_ok I hN hi (.inl hl) (v := .non) rfl (fun s1 I1 => ?_) (.inr hl)))
  unfold unbindBehindTheSuite
  refine wpAny_onRaise ?_
  unfold unbindName
  refine wpAny_bind (wpAny_point (wpAny_bind ?_))
  unfold deleteName
  simp only [hl, hp]
  rw [if_neg (by decide)]
  obtain ⟨m, hn, hlk⟩ := id I1.loc
  have hiσ : i < σ.length := by rw [I.len]; exact (List.getElem?_eq_some_iff.mp hi).1
  have hmn : m n = some .none := by
    obtain ⟨u, ru, q⟩ := hlk i n .non hi (by rw [List.getElem?_set_self hiσ]) (.inl hl)
    cases ru
    rcases q with ⟨_, q⟩ | ⟨q, _⟩
    · exact q
    · rw [hl] at q; rcases q with q | q <;> cases q
  refine wpAny_bind (wpAny_nsDel_keeps hn fun h₂ v hn₂ hs => ?_)
  rw [hmn]
  simp only [if_true, Option.isSome_some, Bool.not_true, Bool.false_eq_true, if_false]
  refine wpAny_pure (wpAny_point (h _ ?_))
  have cne := I1.cne
  obtain ⟨oL, _, _, hoL, _⟩ := id hn
  refine ⟨I1.ok, I1.os, I1.bare, ⟨fun b o e n hb hx => ?_, fun b o e n hb hx => ?_, I1.base.free, fun b o e hx => ?_, I1.base.tups, I1.base.frzs, I1.base.tbls⟩, ⟨_, hn₂, fun j y v' e1 e2 e3 => ?_⟩, fun y c e => ?_, I1.free, I1.freeC, fun p hp => ?_, fun b ob e => ?_, by simpa using I.len⟩
  · exact (hs.2 b (Nat.ne_of_lt (Nat.lt_of_lt_of_le (Heap.lt_size e) I.ok.above))).trans (I1.base.keep b o e n hb hx)
  · obtain ⟨sl, e1⟩ := I1.base.slot b o e n hb hx
    exact ⟨sl, (hs.2 b (Nat.ne_of_lt (Nat.lt_of_lt_of_le (Heap.lt_size e) I.ok.above))).trans e1⟩
  · obtain ⟨o', e1⟩ := I1.base.there b o e hx
    exact ⟨o', (hs.2 b (Nat.ne_of_lt (Nat.lt_of_lt_of_le (Heap.lt_size e) I.ok.above))).trans e1⟩
  · by_cases hj : j = i
    · subst hj
      rw [List.getElem?_set_self hiσ] at e2
      cases e2
    · rw [List.getElem?_set_ne (Ne.symm hj)] at e2
      obtain ⟨u', r', q⟩ := hlk j y v' e1 (by rw [List.getElem?_set_ne (Ne.symm hj)]; exact e2) e3
      refine ⟨u', r', ?_⟩
      rcases q with ⟨k, e⟩ | ⟨k, c, e, z⟩
      · refine .inl ⟨k, ?_⟩
        have : y ≠ n := fun e => hj (nodup_ix hN e1 (e ▸ hi))
        simp [this, e]
      · exact .inr ⟨k, c, e, z.sameBut hs (cne y c e)⟩
  · obtain ⟨w', z⟩ := I1.cell y c e
    exact ⟨w', z.sameBut hs (cne y c e)⟩
  · obtain ⟨e, n, ne, nf, d⟩ := I1.pin p hp
    exact ⟨(hs.2 p.1 ne).trans e, n, ne, nf, d⟩
  · refine (I1.hok b ob e).stay (fun c w' hc q => (hs.2 c ?_).trans q) (fun _ q => q) fun _ _ q => q
    rintro rfl
    rcases hc with z | hc
    · rw [← z] at e; rw [I1.free] at e; cases e
    · rw [I1.free] at hc; cases hc
end
end L2

set_option Elab.async false
set_option linter.all false
set_option maxRecDepth 100000
set_option maxHeartbeats 4000000
namespace L2
open PySem PySem.Spec PyProof.Rows
/-- a class of exceptions: its bases in their order -/
def XMr (K : PySem.W.Frag) (C : Addr) (l : List Value) : Prop := ∃ nm q N bs sn sub ab col dd k0 k1 k2 k3 k5, K.lookup C = some (excClassObj nm q C N bs l true sn sub ab col dd k0 k1 k2 k3 k5 "ValueError.__new__")
theorem XCls.mr {K : PySem.W.Frag} {C D fI : Addr} (c : XCls K C D fI) : XMr K C (.ref D :: bmV) := c.obj
/-- within an except suite -/
def Cx.hdl (X : Cx) (x : Addr) : Cx := { X with A := X.A.mark (some (.ref x)), calm := false, xe := fun _ _ => False }
def Cx.quiet (X : Cx) : Cx := { X with xe := fun _ _ => False }
section
variable {X : Cx} {pins : List (Addr × Obj)} {σ : St} {H : Hp} {s : Shared} {A : Around} {E : Value → Shared → Prop} {x C T : Addr} {od : Option Addr}
theorem Inv.to (I : Inv X pins σ H s) : Inv (X.hdl x) pins σ H s :=
  ⟨⟨I.ok.mod, I.ok.kind, I.ok.glob, I.ok.blt, I.ok.above, I.ok.inj, I.ok.has, I.ok.cab, (fun z => by cases z), I.ok.frames, I.ok.stk, I.ok.exf, I.ok.bs, I.ok.bsz, I.ok.noex, I.ok.exfs, I.ok.funs, I.ok.frf⟩, I.os, I.bare, I.base, I.loc, I.cell, I.free, I.freeC, I.pin, I.hok, I.len⟩
theorem Inv.fro (ok : X.Ok) (I : Inv (X.hdl x) pins σ H s) : Inv X pins σ H s := ⟨ok, I.os, I.bare, I.base, I.loc, I.cell, I.free, I.freeC, I.pin, I.hok, I.len⟩
theorem Inv.toQ (I : Inv X pins σ H s) : Inv X.quiet pins σ H s :=
  ⟨⟨I.ok.mod, I.ok.kind, I.ok.glob, I.ok.blt, I.ok.above, I.ok.inj, I.ok.has, I.ok.cab, I.ok.hd, I.ok.frames, I.ok.stk, I.ok.exf, I.ok.bs, I.ok.bsz, I.ok.noex, I.ok.exfs, I.ok.funs, I.ok.frf⟩, I.os, I.bare, I.base, I.loc, I.cell, I.free, I.freeC, I.pin, I.hok, I.len⟩
theorem Inv.froQ (ok : X.Ok) (I : Inv X.quiet pins σ H s) : Inv X pins σ H s := ⟨ok, I.os, I.bare, I.base, I.loc, I.cell, I.free, I.freeC, I.pin, I.hok, I.len⟩
theorem matches_ok {M : Model} {C' : Addr} {l l' : List Value} {oe : Obj} {Q : Bool → Shared → Prop} (hK : X.K.In s.heap) (c : XMr X.K C l) (c' : XMr X.K C' l') (he : s.heap.get? x = some oe) (hcl : oe.cls = .ref C) (hb : l'.contains (.type "BaseException") = true)
    (hq : Q ((Value.ref C :: l).contains (.ref C')) s) : wpAny M A (excMatches (.ref x) (.ref C')) Q E s := by
  obtain ⟨nm, q, N, bs, sn, sub, ab, col, dd, k0, k1, k2, k3, k5, lk⟩ := c
  obtain ⟨nm', q', N', bs', sn', sub', ab', col', dd', k0', k1', k2', k3', k5', lk'⟩ := c'
  have hC := hK _ _ lk
  have hC' := hK _ _ lk'
  obtain ⟨hp, g, d, tk, os⟩ := s
  have hcB : (Value.ref C' :: l').contains (.type "BaseException") = true := by rw [List.contains_cons, hb, Bool.or_true]
  have f := tc_notTuple
  unfold excMatches
  repeat (first | (with_reducible refine wpAny_loadPart_at he ?_; rw [hcl]) | with_reducible refine wpAny_loadPart_at hC' ?_ | (with_reducible refine wpAny_isSubtype_exc hC' ?_; rw [hcB]) | with_reducible refine wpAny_isSubtype_exc hC ?_ | wp_step)
  cases hbb : (Value.ref C :: l).contains (.ref C') <;> (rw [hbb] at hq; wp_walk; exact hq)
end
/-- what the except clauses ask -/
abbrev TH := Ends → St → Hp → Addr → Addr → Option Addr → Prop
def PH (X : Cx) (hs : List ExceptHandler) (t : TH) : Prop := ∀ (pins : List (Addr × Obj)) (s : Shared) (σ : St) (H : Hp) (D : Ends) (x C : Addr) (od : Option Addr) (T : Addr), Inv X pins σ H s → H x = some (.ext (ExcAt x C od)) → FpOk X pins H T → Ent x T s.heap → t D σ H x C od →
  wpAny (model X.prog X.w) X.A (handleBy (.ref x) X.env hs) (SP X pins D) X.xe s
def tHit (K : PySem.W.Frag) (C' : Addr) (i : Nat) (ts : TS) (tr : TH) : TH := fun D σ H x C od => ∃ l, XMr K C l ∧ ((Value.ref C :: l).contains (.ref C') = true → ts { nx := fun σ' H' => D.nx (σ'.set i none) H', rt := D.rt, bk := fun σ' H' => D.bk (σ'.set i none) H', ct := fun σ' H' => D.ct (σ'.set i none) H' } (σ.set i (some (.ref x))) H) ∧
  ((Value.ref C :: l).contains (.ref C') = false → tr D σ H x C od)
def tMiss : TH := fun _ _ _ _ _ _ => False
section
variable {X : Cx}
theorem ph_nil : PH X [] tMiss := fun _ _ _ _ _ _ _ _ _ _ _ _ _ h => h.elim
theorem ph_hit {cn n : Str} {p pos : Pos} {b₀ : Stmt} {suite : List Stmt} {rest : List ExceptHandler} {C' : Addr} {l' : List Value} {i : Nat} {ts : TS} {tr : TH} (hN : X.N.Nodup) (hi : X.N[i]? = some n) (hl : X.env.kindOf n = some .local) (hg : Gl X cn) (hm : X.mg cn = some (.ref C')) (c' : XMr X.K C' l') (hb : l'.contains (.type "BaseException") = true)
    (hs : ∀ x, PSs (X.hdl x) (b₀ :: suite) ts) (hr : PH X rest tr) (hdb : (cn == ("__debug__" : Str)) = false := by decide) : PH X (.ExceptHandler (some (.Name cn p)) (some n) (b₀ :: suite) pos :: rest) (tHit X.K C' i ts tr) := by
  intro pins s σ H D x C od T I hx hT he h
  obtain ⟨l, c, h1, h2⟩ := h
  obtain ⟨⟨vs, hxo⟩, _⟩ := (show ObjOk X.prog X.w H s.heap x (.ext (ExcAt x C od)) from I.hok x _ hx)
  refine wpAny_handleBy_cons (codeAny_handlers_test (ld_glob (X := X.hdl x) I.to hg hm (matches_ok (X := X) I.kIn c c' hxo rfl hb ?_) hdb)) (by intro q; cases q)
  cases hbb : (Value.ref C :: l).contains (.ref C') with
  | false => exact hr pins s σ H D x C od T I hx hT he (h2 hbb)
  | true =>
    refine codeAny_handlers_suite_as (flight_ok I hT he (by rw [hx]; simp) fun s1 I1 => store_ok (X := X.hdl x) (v := .ref x) I1.to hN hi (.inl hl) rfl (fun s2 I2 => ?_) (.inr hl))
    refine wpAny_mono (hs x pins s2 _ H _ I2 (h1 hbb)) (fun f s3 q => ?_) fun _ _ z => z.elim
    cases f with
    | next =>
      obtain ⟨σ', H', I', q⟩ := q
      exact goes_ok (I'.fro I.ok) hN hi hl fun s4 I4 => ⟨_, _, I4, q⟩
    | brk =>
      obtain ⟨σ', H', I', q⟩ := q
      exact goes_ok (I'.fro I.ok) hN hi hl fun s4 I4 => ⟨_, _, I4, q⟩
    | cont =>
      obtain ⟨σ', H', I', q⟩ := q
      exact goes_ok (I'.fro I.ok) hN hi hl fun s4 I4 => ⟨_, _, I4, q⟩
    | ret u =>
      obtain ⟨v, σ', H', I', r, q⟩ := q
      exact goes_ok (I'.fro I.ok) hN hi hl fun s4 I4 => ⟨v, _, _, I4, r, q⟩
end
/-- n = f(..) within a try -/
def tTryA (sp : Sp) (i : Nat) (ta : TA) (th : TH) : TS := fun D σ H => ta σ H fun vs H1 => sp vs H1 (fun v H2 => D.nx (σ.set i (some v)) H2) (fun xv od H2 => ∃ x C, xv = .ref x ∧ H2 x = some (.ext (ExcAt x C od)) ∧ th D σ H2 x C od)
section
variable {X : Cx} {k : Nat} {f : Addr} {fd : FuncData} {ps : List Str} {sp : Sp}
theorem run_catch {pins : List (Addr × Obj)} {σ : St} {H : Hp} {s : Shared} {us : List Value} {vs : List V} {Q : VK} {th : TH} {D : Ends} {h0 : ExceptHandler} {hs : List ExceptHandler} (F : FnOk X.prog X.w X.K X.mg X.base (CXe X.prog X.w) k f fd ps sp) (hr : Room k X.A) (hb : Binds X.K fd ps []) (hst : X.stack = X.env :: X.outer) (hfr : X.env.frame = some X.env.locals) (hh : PH X (h0 :: hs) th)
    (I : Inv X pins σ H s) (r : Vals vs us) (h : sp vs H Q (fun xv od H2 => ∃ x C, xv = .ref x ∧ H2 x = some (.ext (ExcAt x C od)) ∧ th D σ H2 x C od)) :
    wpAny (model X.prog X.w) X.A (call (.ref f) us) (EP X pins σ Q) (fun e s₁ => wpAny (model X.prog X.w) X.A (noteFrame e X.env) (fun _ s₂ => wpAny (model X.prog X.w) X.A (setFlight e none) (fun _ s₃ => wpAny (model X.prog X.w) X.A (handleBy e X.env (h0 :: hs)) (SP X pins D) X.xe s₃) X.xe s₂) X.xe s₁) s := by
  have hl : us.length = ps.length := by rw [← r.length]; exact F.len _ _ _ _ h
  have hb2 := hb s us I.kIn (by rw [List.append_nil]; exact hl)
  rw [List.append_nil] at hb2
  refine wpAny_call (codeAny_mono (F.run X.A X.stack s H ⟨us, []⟩ us vs Q _ hr I.env0 hb2 r h) fun r s' hq => ?_)
  cases r with
  | error e =>
    obtain ⟨x, C, od, H', rfl, os, bare, un, hok, hx, hn, ht, hE⟩ := hq
    have I' : Inv X pins σ H' s' := I.call' (ch := []) os un hok bare (fun b z => absurd z (by simp))
    obtain ⟨x', C', ex, hx', hE⟩ := hE
    cases ex
    exact catch_ok I' hst hfr hx' ht (fun b hb hnb => I.fpOk hb hnb) fun s2 T I2 hT he => hh pins s2 σ H' D x C' od T I2 hx' hT he hE
  | ok fl =>
    cases fl with
    | ret u => exact I.after hq
    | next => exact False.elim hq
    | brk => exact False.elim hq
    | cont => exact False.elim hq
theorem ps_tryA {x n : Str} {np p' cpos apos pos : Pos} {e : Expr} {es : List Expr} {ta : TA} {i : Nat} {th : TH} {h0 : ExceptHandler} {hs : List ExceptHandler} (F : FnOk X.prog X.w X.K X.mg X.base (CXe X.prog X.w) k f fd ps sp) (hr : Room k X.A) (hb : Binds X.K fd ps []) (hst : X.stack = X.env :: X.outer) (hfr : X.env.frame = some X.env.locals)
    (hN : X.N.Nodup) (hi : X.N[i]? = some n) (hl : X.env.scope.names.lookup n = some .local) (hg : Gl X x) (hm : X.mg x = some (.ref f)) (hk : PySem.W.keepIn X.K (.ref f) = true) (ha : PA X.quiet (e :: es) ta) (hh : PH X (h0 :: hs) th)
    (hsw : swapsWith (.Call (.Name x np) (e :: es) [] cpos) (some (.Name n p')) apos.line X.env = pure false := by rfl) (hdb : (x == ("__debug__" : Str)) = false := by decide) (he : starEach (e :: es) X.env = (false, eval e X.env) :: starEach es X.env := by rfl)
    (hpl : (backTo cpos (starEach es X.env)).any (·.1) = false := by rfl) :
    PS X (.Try [.Assign [.Name n p'] (.Call (.Name x np) (e :: es) [] cpos) apos] (h0 :: hs) [] [] pos) (tTryA sp i ta th) := by
  intro pins s σ H D I h
  rw [arm_exec_Try]
  refine wpAny_bind (wpAny_standAt (wpAny_tryStmt_except (wpAny_execs_cons (wpAny_Assign_Name ?_ hsw))))
  refine wpAny_Call_Name_kw (ld_glob I hg hm ?_ hdb)
  refine PySem.W.callWith_K (h₀ := X.base) I.ok.mod.kin hk (wpAny_mono (ha cpos pins s σ H _ I.toQ h) (fun us s1 ⟨vs, H1, I1, r, q⟩ => ⟨I1.kIn, ?_⟩) fun _ _ z => z.elim) he hpl
  have I1 := I1.froQ I.ok
  refine thn (run_catch F hr hb hst hfr hh I1 r q) fun u s2 ⟨v, H2, I2, rv, q2⟩ => ?_
  refine store_ok I2 hN hi (.inl hl) rv (fun s3 I3 => ?_) (.inr hl)
  exact wpAny_execs_nil (wpAny_execs_nil ⟨_, _, I3, q2⟩)
end
end L2

set_option Elab.async false
set_option linter.all false
set_option maxRecDepth 100000
set_option maxHeartbeats 4000000
namespace L2
open PySem PySem.Spec PyProof.Rows
theorem kind_bga : builtinKind "BaseException.__getattribute__" = some .slot := by decide +kernel
theorem split_bga : splitId "BaseException.__getattribute__" = some ("BaseException", "__getattribute__") := by decide +kernel
section
variable {prog : Program} {w : World} {A : Around} {E : Value → Shared → Prop} {h : Heap} {g : Array GenState} {d : Drawn} {t : Nat} {os : OsState}
variable {nm q : Str} {C N x : Addr} {l bs : List Value} {sn : List Str} {sub : List Value} {ab : Bool} {col : Option Bool} {dd : Option Addr} {k0 k1 k2 k3 k5 : Option Value} {K : PySem.W.Frag} {o : Obj}
theorem check_G {M : Model} {nameV : Value} {Q : Unit → Shared → Prop} (hC : h.get? C = some (excClassObj nm q C N bs l true sn sub ab col dd k0 k1 k2 k3 k5 "ValueError.__new__")) (hl : l.contains (.type "BaseException") = true) (hx : h.get? x = some o) (hc : o.cls = .ref C) (hq : Q () ⟨h, g, d, t, os⟩) :
    wpAny M A (checkBuiltinCall "BaseException.__getattribute__" ⟨[.ref x, nameV], []⟩) Q E ⟨h, g, d, t, os⟩ := by
  have hcB : (Value.ref C :: l).contains (.type "BaseException") = true := by rw [List.contains_cons, hl, Bool.or_true]
  have ha := F.args_bexc_ga (.ref x) nameV
  simp only [checkBuiltinCall, kind_bga, split_bga]
  refine wpAny_bind ?_
  unfold isInstance
  repeat (first | (with_reducible refine wpAny_loadPart_at hx ?_; rw [hc]) | (with_reducible refine wpAny_isSubtype_exc hC ?_; rw [hcB]) | wp_step)
  exact hq
/-- e.f -/
theorem load_entryX {mA : Str → Option Value} {name : Str} {v : Value} {tk : Tok} {Q : Fin → Shared → Prop} (KX : K.In h) (hC : h.get? C = some (excClassObj nm q C N bs l true sn sub ab col dd k0 k1 k2 k3 k5 "ValueError.__new__"))
    (hna : PySem.W.findIn K (.ref C) name = some none) (I : h.Inst x C mA) (hv : mA name = some v) (hq : Q (.done (.ret v)) ⟨h, g, d, t, os⟩) :
    wpAny (model prog w) A (Builtin.«object.__getattribute__» ⟨[.ref x, .str name tk], []⟩) Q E ⟨h, g, d, t, os⟩ := by
  obtain ⟨o, hx, hc, hnc, hd⟩ := I
  have lk : ∀ {n : Str} {r : Option Value} {P : Option Value → Shared → Prop} {A' : Around} {E' : Value → Shared → Prop} {tk : Nat}, PySem.W.findIn K (.ref C) n = some r → P r ⟨h, g, d, tk, os⟩ → wpAny (model prog w) A' (typeLookup (.ref C) n) P E' ⟨h, g, d, tk, os⟩ := fun e hp => PySem.W.looks_findIn KX e _ _ _ _ (fun _ _ z => z) hp
  rcases hd with ⟨_, hmA⟩ | ⟨dx, hdx, hne, hns⟩
  · rw [hmA name] at hv; cases hv
  unfold Builtin.«object.__getattribute__»
  repeat (first | (with_reducible refine wpAny_loadPart_at hx ?_; rw [hc]) | (with_reducible refine lk hna ?_) | wp_step)
  split
  · rename_i c hcd
    exact absurd hcd (hnc c)
  unfold instanceDict
  repeat (first | (with_reducible refine wpAny_loadPart_at hx ?_; rw [hc]) | with_reducible refine wpAny_loadPart_at hC ?_ | wp_step)
  rw [hdx]
  repeat (first | (with_reducible refine wpAny_nsGet hns.ns ?_; rw [hv]) | wp_step)
  exact hq
theorem load_attrX {mA : Str → Option Value} {name : Str} {v : Value} {expr : Bool} {Q : Value → Shared → Prop} (KX : K.In h) (hC : h.get? C = some (excClassObj nm q C N bs l true sn sub ab col dd k0 k1 k2 k3 k5 "ValueError.__new__")) (hl : l.contains (.type "BaseException") = true)
    (hga : PySem.W.findIn K (.ref C) "__getattribute__" = some (some (.builtin "BaseException.__getattribute__"))) (hgt : PySem.W.findIn K (.ref C) "__getattr__" = some none) (hna : PySem.W.findIn K (.ref C) name = some none) (I : h.Inst x C mA) (hv : mA name = some v) (hh : handedOut v = pure v) (hq : Q v ⟨h, g, d, t + 1, os⟩) :
    wpAny (model prog w) A (getAttr (.ref x) name expr) Q E ⟨h, g, d, t, os⟩ := by
  obtain ⟨o, hx, hc, _⟩ := id I
  have lk : ∀ {n : Str} {r : Option Value} {P : Option Value → Shared → Prop} {A' : Around} {E' : Value → Shared → Prop} {tk : Nat}, PySem.W.findIn K (.ref C) n = some r → P r ⟨h, g, d, tk, os⟩ → wpAny (model prog w) A' (typeLookup (.ref C) n) P E' ⟨h, g, d, tk, os⟩ := fun e hp => PySem.W.looks_findIn KX e _ _ _ _ (fun _ _ z => z) hp
  have FX := F.excAttr_ValueError
  have f3 := FX.ga.bind (.ref x)
  have hx0 : (expr && onTheHeap (Value.builtin "BaseException.__getattribute__")) = false := by cases expr <;> rfl
  unfold getAttr getAttrBy
  repeat (any_goals (first | assumption | (with_reducible refine wpAny_loadPart_at hx ?_; rw [hc]) | (with_reducible refine lk hga ?_) | (refine lk (n := "__getattr__") hgt ?_) | wp_step))
  refine codeAny_call_builtin FX.ga.plain F.entry_bexc_ga (check_G hC hl hx hc (load_entryX KX hC hna I hv ?_))
  repeat (any_goals (first | assumption | wp_step))
/-- e.__class__ -/
theorem class_getX {R : Result → Shared → Prop} (hC : h.get? C = some (excClassObj nm q C N bs l true sn sub ab col dd k0 k1 k2 k3 k5 "ValueError.__new__")) (hl : l.contains (.type "object") = true) (hx : h.get? x = some o) (hc : o.cls = .ref C) (hq : R (.ok (.ret (.ref C))) ⟨h, g, d, t, os⟩) :
    codeAny (model prog w) A (.call (.builtin "getset_descriptor.__get__") ⟨[.builtin "object.__class__", .ref x, .ref C], []⟩) R ⟨h, g, d, t, os⟩ := by
  have hcB : (Value.ref C :: l).contains (.type "object") = true := by rw [List.contains_cons, hl, Bool.or_true]
  have hT5 : (⟨h, g, d, t, os⟩ : Shared).TypeIs (.builtin "object.__class__") "getset_descriptor" := F.typeOf_object_class
  have f8 := F.owner_object_class
  refine codeAny_call_builtin F.slot_gs_get.plain F.entry_gs_get (F.slot_gs_get.check _ _ _ _ _ _ _ _ hT5 (F.args_gs_get _ _ _) ?_)
  repeat (any_goals (first | assumption | (with_reducible refine wpAny_loadPart_at hx ?_; rw [hc]) | (rw [f8]; with_reducible refine wpAny_isSubtype_exc hC ?_; rw [hcB]) | wp_step))
  refine ⟨Code.quiet_builtin _ (by decide +kernel), codeAny_builtin F.entry_object_class ?_⟩
  repeat (any_goals (first | assumption | (with_reducible refine wpAny_loadPart_at hx ?_; rw [hc]) | wp_step))
theorem class_entryX {tk : Tok} {Q : Fin → Shared → Prop} (KX : K.In h) (hC : h.get? C = some (excClassObj nm q C N bs l true sn sub ab col dd k0 k1 k2 k3 k5 "ValueError.__new__")) (hl : l.contains (.type "object") = true)
    (hcl : PySem.W.findIn K (.ref C) "__class__" = some (some (.builtin "object.__class__"))) (hx : h.get? x = some o) (hc : o.cls = .ref C) (hq : Q (.done (.ret (.ref C))) ⟨h, g, d, t, os⟩) :
    wpAny (model prog w) A (Builtin.«object.__getattribute__» ⟨[.ref x, .str "__class__" tk], []⟩) Q E ⟨h, g, d, t, os⟩ := by
  have lk : ∀ {n : Str} {r : Option Value} {P : Option Value → Shared → Prop} {A' : Around} {E' : Value → Shared → Prop} {tk : Nat}, PySem.W.findIn K (.ref C) n = some r → P r ⟨h, g, d, tk, os⟩ → wpAny (model prog w) A' (typeLookup (.ref C) n) P E' ⟨h, g, d, tk, os⟩ := fun e hp => PySem.W.looks_findIn KX e _ _ _ _ (fun _ _ z => z) hp
  have hT5 : (⟨h, g, d, t, os⟩ : Shared).TypeIs (.builtin "object.__class__") "getset_descriptor" := F.typeOf_object_class
  have f5 := F.typeOf_object_class
  have f6 := F.slot_gs_get.lookup
  have f7 := F.slot_gs_set.lookup
  unfold Builtin.«object.__getattribute__»
  repeat (any_goals (first | assumption | (with_reducible refine wpAny_loadPart_at hx ?_; rw [hc]) | (with_reducible refine lk hcl ?_) | wp_step))
  refine class_getX hC hl hx hc ?_
  repeat (any_goals (first | assumption | wp_step))
theorem class_attrX {Q : Option Value → Shared → Prop} (KX : K.In h) (hC : h.get? C = some (excClassObj nm q C N bs l true sn sub ab col dd k0 k1 k2 k3 k5 "ValueError.__new__")) (hlb : l.contains (.type "BaseException") = true) (hl : l.contains (.type "object") = true)
    (hga : PySem.W.findIn K (.ref C) "__getattribute__" = some (some (.builtin "BaseException.__getattribute__"))) (hgt : PySem.W.findIn K (.ref C) "__getattr__" = some none) (hcl : PySem.W.findIn K (.ref C) "__class__" = some (some (.builtin "object.__class__")))
    (hx : h.get? x = some o) (hc : o.cls = .ref C) (hq : Q (some (.ref C)) ⟨h, g, d, t + 1, os⟩) : wpAny (model prog w) A (getAttr? (.ref x) "__class__") Q E ⟨h, g, d, t, os⟩ := by
  have lk : ∀ {n : Str} {r : Option Value} {P : Option Value → Shared → Prop} {A' : Around} {E' : Value → Shared → Prop} {tk : Nat}, PySem.W.findIn K (.ref C) n = some r → P r ⟨h, g, d, tk, os⟩ → wpAny (model prog w) A' (typeLookup (.ref C) n) P E' ⟨h, g, d, tk, os⟩ := fun e hp => PySem.W.looks_findIn KX e _ _ _ _ (fun _ _ z => z) hp
  have FX := F.excAttr_ValueError
  have f3 := FX.ga.bind (.ref x)
  unfold getAttr? getAttrBy? getAttrBy
  repeat (any_goals (first | assumption | (with_reducible refine wpAny_loadPart_at hx ?_; rw [hc]) | (with_reducible refine lk hga ?_) | (refine lk (n := "__getattr__") hgt ?_) | wp_step))
  refine codeAny_call_builtin FX.ga.plain F.entry_bexc_ga (check_G hC hlb hx hc (class_entryX KX hC hl hcl hx hc ?_))
  repeat (any_goals (first | assumption | wp_step))
end
end L2

set_option Elab.async false
set_option linter.all false
set_option maxRecDepth 100000
set_option maxHeartbeats 4000000
namespace L2
open PySem PySem.Spec PyProof.Rows
/-- what a class of exceptions looks like to a reader -/
structure XGet (K : PySem.W.Frag) (C : Addr) (l : List Value) : Prop where
  mr : XMr K C l
  be : l.contains (.type "BaseException") = true
  ob : l.contains (.type "object") = true
  ga : PySem.W.findIn K (.ref C) "__getattribute__" = some (some (.builtin "BaseException.__getattribute__"))
  gt : PySem.W.findIn K (.ref C) "__getattr__" = some none
  cl : PySem.W.findIn K (.ref C) "__class__" = some (some (.builtin "object.__class__"))
section
variable {X : Cx} {pins : List (Addr × Obj)} {σ : St} {H : Hp} {s : Shared} {A : Around} {E : Value → Shared → Prop} {x C dx : Addr} {l : List Value} {f : Str}
theorem xget_ok {b : Bool} {y : V} {fs : List (Str × V)} {Q : Value → Shared → Prop} (I : Inv X pins σ H s) (c : XGet X.K C l) (n : NoAttr X.K C f) (e : H x = some (.ext (ExcAt x C (some dx)))) (ed : H dx = some (.ext (XdAt dx fs))) (dxx : dx ≠ x) (lk : fs.lookup f = some y)
    (h : ∀ u s', Inv X pins σ H s' → RelV y u → Q u s') : wpAny (model X.prog X.w) A (getAttr (.ref x) f b) Q E s := by
  obtain ⟨nm, q, N, bs, sn, sub, ab, col, dd, k0, k1, k2, k3, k5, hl⟩ := c.mr
  have hC := I.kIn _ _ hl
  obtain ⟨⟨vs, hx⟩, _⟩ := (show ObjOk X.prog X.w H s.heap x (.ext (ExcAt x C (some dx))) from I.hok x _ e)
  obtain ⟨⟨mA, ns, rel, wi⟩, _⟩ := (show ObjOk X.prog X.w H s.heap dx (.ext (XdAt dx fs)) from I.hok dx _ ed)
  obtain ⟨u, hu, ru⟩ := RelO.some_of (v := y) (o := mA f) (by rw [← lk]; exact rel f)
  have In : s.heap.Inst x C mA := ⟨_, hx, rfl, (fun c z => by cases z), .inr ⟨dx, rfl, dxx, ns⟩⟩
  have hK := I.kIn
  have I' : Inv X pins σ H { s with toks := s.toks + 1 } := I.tok _
  obtain ⟨hp, g, d, tk, os⟩ := s
  exact load_attrX hK hC c.be c.ga c.gt n In hu (PySem.W.handedOut_of (handed_of ru)) (h u _ I' ru)
theorem kitX (c : XGet X.K C l) : PySem.W.KitX X.K (.ref x) (.ref C) (fun h => ∃ oe, h.get? x = some oe ∧ oe.cls = .ref C) where
  ty := fun M h _ ⟨oe, h1, h2⟩ => h2 ▸ (PySem.W.Looks.ld h1).andThen .now
  it := fun _ _ K _ => by
    obtain ⟨nm, q, N, bs, sn, sub, ab, col, dd, k0, k1, k2, k3, k5, hl⟩ := c.mr
    intro A' Q' E' s' k q
    unfold isType loadHead
    exact wpAny_bind (wpAny_loadPart (k _ _ (K _ _ hl)) (wpAny_pure q))
  ne := fun h tp dd its n sl K htp => by
    obtain ⟨nm, q, N, bs, sn, sub, ab, col, dd, k0, k1, k2, k3, k5, hl⟩ := c.mr
    refine Bool.eq_false_iff.mpr fun q => ?_
    have e : C = tp := Value.ref.inj (beq_iff_eq.mp q)
    subst e
    have z := Option.some.inj ((K _ _ hl).symm.trans htp)
    have z2 := congrArg Obj.data z
    cases z2
  ca := fun {prog w A E Q s} K p k => by
    obtain ⟨nm, q, N, bs, sn, sub, ab, col, dd, k0, k1, k2, k3, k5, hl⟩ := c.mr
    obtain ⟨oe, h1, h2⟩ := p
    have hC := K _ _ hl
    obtain ⟨hp, g, d, tk, os⟩ := s
    exact class_attrX K hC c.be c.ob c.ga c.gt c.cl h1 h2 k
end
/-- e.f -/
def tXget (K : PySem.W.Frag) (ta : TE) (f : Str) : TE := fun σ H Q => ta σ H fun v H1 => ∃ x C l dx fs y, v = .ref x ∧ XGet K C l ∧ NoAttr K C f ∧ H1 x = some (.ext (ExcAt x C (some dx))) ∧ H1 dx = some (.ext (XdAt dx fs)) ∧ dx ≠ x ∧ fs.lookup f = some y ∧ Q y H1
section
variable {X : Cx} {e : Expr} {f : Str} {pos : Pos} {ta : TE}
theorem pe_xget (he : PE X e ta) (hb : attributeBase e f X.env (eval e X.env) = eval e X.env) : PE X (.Attribute e f pos) (tXget X.K ta f) := by
  intro pins s σ H Q I h
  refine attr_of hb (thn (he pins s σ H _ I h) fun u s1 ⟨v, H1, I1, rx, x, C, l, dx, fs, y, ex, c, n, e1, e2, e3, lk, q⟩ => ?_)
  subst ex
  obtain rfl : u = Value.ref x := rx
  exact xget_ok I1 c n e1 e2 e3 lk fun u' s2 I2 ru => ⟨y, H1, I2, ru, q⟩
/-- isinstance(e, C') -/
theorem call_isiX : CallR X (.builtin "isinstance") (fun xs H Q => ∃ x C od l C' b, xs = [.ref x, .ref C'] ∧ XGet X.K C l ∧ H x = some (.ext (ExcAt x C od)) ∧ PySem.W.kitOne X.K (.ref C) (.ref C') = some b ∧ Q (.bl b) H) := by
  rintro pins s σ H xs us Q I r ⟨x, C, od, l, C', b, rfl, c, e, hk, q⟩
  obtain ⟨u, v, rfl, ru, rv⟩ := vals2 r
  cases rv
  cases ru
  obtain ⟨⟨vs, hx⟩, _⟩ := (show ObjOk X.prog X.w H s.heap x (.ext (ExcAt x C od)) from I.hok x _ e)
  exact PySem.W.kia_one (kitX c) I.kIn ⟨_, hx, rfl⟩ hk (fun z => nomatch z) fun tk => ⟨.bl _, H, I.tok tk, rfl, q⟩
/-- .. with the part named, for an except suite -/
theorem pe_xgetK {K : PySem.W.Frag} (hK : X.K = K) (he : PE X e ta) (hb : attributeBase e f X.env (eval e X.env) = eval e X.env) : PE X (.Attribute e f pos) (tXget K ta f) := by subst hK; exact pe_xget he hb
theorem call_isiXK {K : PySem.W.Frag} (hK : X.K = K) : CallR X (.builtin "isinstance") (fun xs H Q => ∃ x C od l C' b, xs = [.ref x, .ref C'] ∧ XGet K C l ∧ H x = some (.ext (ExcAt x C od)) ∧ PySem.W.kitOne K (.ref C) (.ref C') = some b ∧ Q (.bl b) H) := by subst hK; exact call_isiX
end
end L2

set_option Elab.async false
set_option linter.all false
set_option maxRecDepth 100000
set_option maxHeartbeats 4000000
namespace L2
open PySem PySem.Spec PyProof.Rows
/-- a class of exceptions of the program, with an __init__ of its own -/
structure XTop (K : PySem.W.Frag) (mg : Str → Option Value) (nm qual : Str) (st : Stmt) (ps : List Str) (C D fI : Addr) (fd : FuncData) : Prop where
  cls : XCls K C D fI
  get : XGet K C (.ref D :: bmV)
  mg : mg nm = some (.ref C)
  fn : Fun K "__init__" qual st fI fd
  bd : Binds K fd ps []
theorem tail_mk {K : PySem.W.Frag} {h : Heap} {D : Addr} {c0 c1 : Value} {dd d1 : Option Addr} {cd : ClassData} {sl s1 : Array (Option Value)} {es : Array DictEntry} {n : Nat} (lD : K.lookup D = some ⟨c0, dd, .cls cd, sl⟩) (lN : K.lookup cd.ns = some ⟨c1, d1, .dict es n, s1⟩)
    (hes : (es.all fun e => match e.key with | .str _ _ => true | _ => false) = true) (iD : PySem.W.nsIn K cd.ns "__init__" = some none) (X : K.In h) : OwnTail h bmV (.ref D :: bmV) := by
  have ok : PySem.W.nsOkIn K cd.ns = true := by unfold PySem.W.nsOkIn; rw [lN]; exact hes
  exact .own (X _ _ lD) (.of_isNs (PySem.W.isNs_of_in X ok)) (PySem.W.nsMap_none_of_in X ok iD) .base
theorem xtop_mk {K : PySem.W.Frag} {h : Heap} {mg : Str → Option Value} {nm qual : Str} {st : Stmt} {ps : List Str} {C D fI : Addr} {oC : Obj} {c0 c1 : Value} {dd d1 : Option Addr} {cd : ClassData} {sl s1 : Array (Option Value)} {es : Array DictEntry} {n : Nat} {oc : Value} {od an : Option Addr} {osl : Array (Option Value)} {kV doc pm cdv ct : Value}
    (X : K.In h) (G : h.Ns mainGlobals mg) (a : PySem.W.nsIn K mainGlobals nm = some (some (.ref C))) (lC : K.lookup C = some oC)
    (eC : ∃ nm q N bs sn sub ab col dd k0 k1 k2 k3 k5, oC = excClassObj nm q C N bs (.ref D :: bmV) true sn sub ab col dd k0 k1 k2 k3 k5 "ValueError.__new__")
    (lD : K.lookup D = some ⟨c0, dd, .cls cd, sl⟩) (lN : K.lookup cd.ns = some ⟨c1, d1, .dict es n, s1⟩) (hes : (es.all fun e => match e.key with | .str _ _ => true | _ => false) = true) (iD : PySem.W.nsIn K cd.ns "__init__" = some none)
    (ini : PySem.W.findIn K (.ref C) "__init__" = some (some (.ref fI))) (sa : PySem.W.findIn K (.ref C) "__setattr__" = some (some (.builtin "object.__setattr__"))) (fn : PySem.W.isFn K (.ref fI) = true) (kp : PySem.W.keepIn K (.ref C) = true)
    (ga : PySem.W.findIn K (.ref C) "__getattribute__" = some (some (.builtin "BaseException.__getattribute__"))) (gt : PySem.W.findIn K (.ref C) "__getattr__" = some none) (cl : PySem.W.findIn K (.ref C) "__class__" = some (some (.builtin "object.__class__")))
    (l : K.lookup fI = some ⟨oc, od, .func (PySem.W.fnOf "__init__" qual (defArgs st) (defBody st) (defScope st) .none kV doc pm an cdv ct), osl⟩) (c : PySem.W.codeIn K cdv qual = true) (k : PySem.W.keepIn K (.ref fI) = true)
    (hb : ∀ (kV doc pm : Value) (an : Option Addr) (cdv ct : Value) (us : List Value), us.length = ps.length → bindArgs (PySem.W.fnOf "__init__" qual (defArgs st) (defBody st) (defScope st) .none kV doc pm an cdv ct) ⟨us, []⟩ = pure (ps.zip us)) :
    XTop K mg nm qual st ps C D fI (PySem.W.fnOf "__init__" qual (defArgs st) (defBody st) (defScope st) .none kV doc pm an cdv ct) := by
  obtain ⟨nm', q, N, bs, sn, sub, ab, col, dd', k0, k1, k2, k3, k5, rfl⟩ := eC
  have mr : XMr K C (.ref D :: bmV) := ⟨nm', q, N, bs, sn, sub, ab, col, dd', k0, k1, k2, k3, k5, lC⟩
  exact ⟨⟨mr, fun h X => tail_mk lD lN hes iD X, ini, sa, fn, kp⟩, ⟨mr, by rw [List.contains_cons, show bmV.contains (.type "BaseException") = true by decide +kernel, Bool.or_true], by rw [List.contains_cons, show bmV.contains (.type "object") = true by decide +kernel, Bool.or_true], ga, gt, cl⟩, PySem.W.mg_of X G a, fun_mk (st := st) l c k, (fun_mk (st := st) l c k).binds hb⟩
end L2

set_option Elab.async false
set_option linter.all false
set_option maxRecDepth 100000
set_option maxHeartbeats 4000000
namespace L2
open PySem PySem.Spec PyProof.Rows PySem.SeqAt
open AutoSeq1 (wpAny_loadPart')
section
variable {M : Model} {A : Around} {E : Value → Shared → Prop} {s : Shared}
end
/-- whether data is another thing than a whole number -/
def neI (d : D) (n : Int) : Bool := match d with
  | .int i => !(i == n)
  | .bl b => !((if b then 1 else 0) == n)
  | _ => true
section
variable {X : Cx}
end
end L2

set_option Elab.async false
set_option linter.all false
set_option maxRecDepth 100000
set_option maxHeartbeats 4000000
namespace L2
open PySem PySem.Spec PyProof.Rows
section
variable {X : Cx}
theorem op_ne0 (hu : X.A.units < cLine) : OpR X (compareOp .NotEq) (fun x y H Q => ∃ a b xs, x = .ref a ∧ y = .ref b ∧ SqL X.K H a xs ∧ SqL X.K H b [] ∧ Q (.bl (!xs.isEmpty)) H) := by
  rintro pins s σ H x y v u Q I rx ry ⟨a, b, xs, rfl, rfl, h1, h2, q⟩
  cases rx; cases ry
  obtain ⟨its, rv, p, _⟩ := I.list h1
  obtain ⟨its2, rv2, p2, _⟩ := I.list h2
  have hl := rv.length
  have hl2 := rv2.length
  have e2 : its2 = [] := List.length_eq_zero_iff.mp hl2.symm
  subst e2
  cases xs with
  | nil =>
    have e1 : its = [] := List.length_eq_zero_iff.mp hl.symm
    subst e1
    exact SeqAt.RcNeAt.lists (e := fun _ => true) p.isList p2.isList rfl hu (fun i hi => absurd hi (Nat.not_lt_zero _)) _ _ _ _ (fin_bl I q rfl)
  | cons z zs =>
    exact SeqAt.RcNeAt.lists_lengths p.isList p2.isList (by rw [List.size_toArray, ← hl]; rfl) hu _ _ _ _ (fin_bl I q rfl)
end
def outS (lo hi : Nat) (x : Str) : List Nat := (cs x).filter fun c => !(decide (lo ≤ c) && decide (c ≤ hi))
def outV (lo hi : Nat) (x : Str) (i : Nat) : List V := (((cs x).take i).filter fun c => !(decide (lo ≤ c) && decide (c ≤ hi))).map fun c => V.str ⟨#[c]⟩
/-- the number that a text writes -/
def readN (x : Str) : Int := ((NumText.digitsVal x.cps.toList : Nat) : Int)
end L2

set_option Elab.async false
set_option linter.all false
set_option maxRecDepth 100000
set_option maxHeartbeats 4000000
/-! nets joined and nets without lines (own work) -/
namespace L2
open PySem PySem.Spec PyProof.Rows
/-! ### lines joined -/
def joinF (g : Str → Row) (l : Ln) : Str → Row := putB g l.1 l.2.1 ((look (g l.1) l.2.1).getD 0 + l.2.2)
def joinsF (g : Str → Row) (ls : List Ln) : Str → Row := ls.foldl joinF g
theorem joinsF_app (g : Str → Row) (l m : List Ln) : joinsF g (l ++ m) = joinsF (joinsF g l) m := List.foldl_append ..
theorem joinsF_succ {g : Str → Row} {ls : List Ln} {i : Nat} {l : Ln} (h : ls[i]? = some l) : joinsF g (ls.take (i + 1)) = joinF (joinsF g (ls.take i)) l := by
  rw [List.take_add_one, h, joinsF_app]; rfl
/-- lines whose ends are two places -/
def Ends2 (ss : List Str) (ls : List Ln) : Prop := ∀ l ∈ ls, l.1 ∈ ss ∧ l.2.1 ∈ ss ∧ l.1 ≠ l.2.1
/-- rows of places, each once -/
structure RowsIn (ss : List Str) (g : Str → Row) : Prop where
  nd : ∀ x ∈ ss, ((g x).map (·.1)).Nodup
  inn : ∀ x ∈ ss, ∀ y ∈ (g x).map (·.1), y ∈ ss
theorem RowsIn.nil (ss : List Str) : RowsIn ss (fun _ => []) := ⟨fun _ _ => List.nodup_nil, fun _ _ _ h => absurd h (by simp)⟩
theorem RowsIn.len {ss : List Str} {g : Str → Row} (h : RowsIn ss g) {x : Str} (hx : x ∈ ss) : (g x).length ≤ ss.length := by
  have := nd_len (h.nd x hx) (h.inn x hx)
  rwa [List.length_map] at this
theorem RowsIn.put {ss : List Str} {g : Str → Row} (h : RowsIn ss g) {x y : Str} {v : Int} (hx : x ∈ ss) (hy : y ∈ ss) (hne : x ≠ y) : RowsIn ss (putB g x y v) := by
  refine ⟨fun a ha => putB_nd (h.nd x hx) (h.nd y hy) (h.nd a ha) hne, fun a ha b hb => ?_⟩
  obtain ⟨w, hw⟩ := look_some_iff.mpr hb
  rw [look_putB hne] at hw
  by_cases c : (a = x ∧ b = y) ∨ (a = y ∧ b = x)
  · rcases c with ⟨_, q⟩ | ⟨_, q⟩
    · rw [q]; exact hy
    · rw [q]; exact hx
  · rw [if_neg c] at hw
    exact h.inn a ha b (look_some_iff.mp ⟨w, hw⟩)
theorem RowsIn.joins {ss : List Str} : ∀ {ls : List Ln} {g : Str → Row}, RowsIn ss g → Ends2 ss ls → RowsIn ss (joinsF g ls)
  | [], _, h, _ => h
  | l :: ls, g, h, e => by
    obtain ⟨h1, h2, h3⟩ := e l (by simp)
    exact RowsIn.joins (ls := ls) (g := joinF g l) (h.put h1 h2 h3) fun m hm => e m (List.mem_cons_of_mem _ hm)
theorem Ends2.take {ss : List Str} {ls : List Ln} (e : Ends2 ss ls) (i : Nat) : Ends2 ss (ls.take i) := fun l hl => e l (List.mem_of_mem_take hl)
/-- two nets alike at these places -/
def EqN (ss : List Str) (g g' : Str → Row) : Prop := ∀ x ∈ ss, ∀ y, look (g x) y = look (g' x) y
theorem EqN.join {ss : List Str} {g g' : Str → Row} (h : EqN ss g g') {l : Ln} (h1 : l.1 ∈ ss) (hne : l.1 ≠ l.2.1) : EqN ss (joinF g l) (joinF g' l) := fun x hx y => by
  unfold joinF
  rw [look_putB hne, look_putB hne, h x hx y, h l.1 h1]
theorem EqN.joins {ss : List Str} : ∀ {ls : List Ln} {g g' : Str → Row}, EqN ss g g' → Ends2 ss ls → EqN ss (joinsF g ls) (joinsF g' ls)
  | [], _, _, h, _ => h
  | l :: ls, g, g', h, e => EqN.joins (ls := ls) (g := joinF g l) (g' := joinF g' l) (h.join (e l (by simp)).1 (e l (by simp)).2.2) fun m hm => e m (List.mem_cons_of_mem _ hm)
theorem mnet_joins {ss : List Str} {ls : List Ln} (ap : Apart ls) (e : Ends2 ss ls) : ∀ i, i ≤ ls.length → MNet ss (ls.take i) (joinsF (fun _ => []) (ls.take i))
  | 0, _ => MNet.nil ss
  | i + 1, hi => by
    have ih := mnet_joins ap e i (by omega)
    have hl : ls[i]? = some ls[i] := List.getElem?_eq_getElem (by omega)
    obtain ⟨h1, h2, h3⟩ := e ls[i] (List.getElem_mem _)
    have hno := ih.none ap hl h1
    rw [joinsF_succ hl, List.take_add_one, hl]
    have := ih.put h1 h2 h3 hno
    unfold joinF
    rw [hno]
    simpa using this
/-- the lines of a net, and some of them: apart -/
theorem apart_of {f : Str → Row} {ls : List Ln} (nd : ls.Nodup) (h : ∀ l ∈ ls, sLt l.1 l.2.1 ∧ look (f l.1) l.2.1 = some l.2.2) : Apart ls := by
  intro i j l m hi hj hij c
  have hl := h l (List.mem_of_getElem? hi)
  have hm := h m (List.mem_of_getElem? hj)
  have e : l = m := by
    rcases c with ⟨c1, c2⟩ | ⟨c1, c2⟩
    · have := hl.2
      rw [c1, c2, hm.2] at this
      obtain ⟨l1, l2, l3⟩ := l
      obtain ⟨m1, m2, m3⟩ := m
      simp only at c1 c2 this
      rw [c1, c2, Option.some.inj this]
    · have h1 := hl.1
      rw [c1, c2] at h1
      exact absurd (sLt_trans h1 hm.1) (sLt_irrefl _)
  subst e
  have i1 := (List.getElem?_eq_some_iff.mp hi)
  have j1 := (List.getElem?_eq_some_iff.mp hj)
  have := (List.getElem?_inj i1.1 nd).mp (hi.trans hj.symm)
  omega
/-- a net whose strengths have some bound -/
def GN (ks : List Str) (f : Str → Row) : Prop := ∃ B : Int, 0 ≤ B ∧ GNet ks f B
theorem GNet.mono {ks : List Str} {f : Str → Row} {B B' : Int} (g : GNet ks f B) (h : B ≤ B') : GNet ks f B' := ⟨g.sym, g.irr, fun x y v hx hv => let ⟨a, b, c⟩ := g.val x y v hx hv; ⟨a, b, Int.le_trans c h⟩, g.nd⟩
theorem GN.rows {ks : List Str} {f : Str → Row} (g : GN ks f) : RowsIn ks f := by
  obtain ⟨B, _, g⟩ := g
  exact ⟨g.nd, fun x hx y hy => by obtain ⟨v, hv⟩ := look_some_iff.mpr hy; exact (g.val x y v hx hv).1⟩
theorem GN.join {ks : List Str} {f : Str → Row} (g : GN ks f) {l : Ln} (h1 : l.1 ∈ ks) (h2 : l.2.1 ∈ ks) (hne : l.1 ≠ l.2.1) (hv : 1 ≤ l.2.2) : GN ks (joinF f l) := by
  obtain ⟨B, hB, g⟩ := g
  refine ⟨B + l.2.2, by omega, ?_⟩
  have hm := g.mono (B' := B + l.2.2) (by omega)
  cases e : look (f l.1) l.2.1 with
  | none =>
    unfold joinF
    rw [e]
    exact hm.put h1 h2 hne (by simp; omega) (by simp; omega)
  | some v =>
    obtain ⟨_, a, b⟩ := g.val _ _ _ h1 e
    unfold joinF
    rw [e]
    exact hm.put h1 h2 hne (by simp; omega) (by simp; omega)
theorem GN.joins {ks : List Str} : ∀ {ls : List Ln} {f : Str → Row}, GN ks f → Ends2 ks ls → (∀ l ∈ ls, 1 ≤ l.2.2) → GN ks (joinsF f ls)
  | [], _, h, _, _ => h
  | l :: ls, f, h, e, v => by
    obtain ⟨h1, h2, h3⟩ := e l (by simp)
    exact GN.joins (ls := ls) (f := joinF f l) (h.join h1 h2 h3 (v l (by simp))) (fun m hm => e m (List.mem_cons_of_mem _ hm)) fun m hm => v m (List.mem_cons_of_mem _ hm)
theorem GN.perm {ks ks' : List Str} {f g : Str → Row} (h : GN ks f) (p : ks'.Perm ks) (e : EqN ks' g f) (nd : ∀ x ∈ ks', ((g x).map (·.1)).Nodup) : GN ks' g := by
  obtain ⟨B, hB, h⟩ := h
  refine ⟨B, hB, fun x y hx hy => ?_, fun x hx => ?_, fun x y v hx hv => ?_, nd⟩
  · rw [e x hx, e y hy]; exact h.sym x y (p.mem_iff.mp hx) (p.mem_iff.mp hy)
  · rw [e x hx]; exact h.irr x (p.mem_iff.mp hx)
  · rw [e x hx] at hv
    obtain ⟨a, b⟩ := h.val x y v (p.mem_iff.mp hx) hv
    exact ⟨p.mem_iff.mpr a, b⟩
/-- the lines of a net as the program tells them -/
theorem linesF_sLt {ks : List Str} {f : Str → Row} {l : Ln} (h : l ∈ linesF ks f) : sLt l.1 l.2.1 ∧ look (f l.1) l.2.1 = some l.2.2 := (mem_linesF.mp h).2
theorem linesF_ends {ks : List Str} {f : Str → Row} {B : Int} (g : GNet ks f B) : Ends2 ks (linesF ks f) := fun l hl => by
  obtain ⟨h1, h2, h3⟩ := mem_linesF.mp hl
  exact ⟨h1, (g.val _ _ _ h1 h3).1, fun e => by rw [e] at h2; exact sLt_irrefl _ h2⟩
theorem linesF_of {ks : List Str} {f : Str → Row} {B : Int} : LinesOf ks f B (linesF ks f) := ⟨by
  have : ∀ ls : List Ln, (∀ l ∈ ls, sLt l.1 l.2.1) → ls.map norm = ls := fun ls h => by
    induction ls with
    | nil => rfl
    | cons l ls ih =>
      rw [List.map_cons, ih fun m hm => h m (List.mem_cons_of_mem _ hm)]
      congr 1
      unfold norm
      rw [if_pos (h l (by simp))]
  rw [this _ fun l hl => (linesF_sLt hl).1]⟩
/-- made of all its lines it is the net -/
theorem joins_all {ks : List Str} {f : Str → Row} (hk : ks.Nodup) (g : GN ks f) : EqN ks (joinsF (fun _ => []) (linesF ks f)) f := by
  obtain ⟨B, _, g⟩ := g
  have ap : Apart (linesF ks f) := apart_of (linesF_nodup hk g) fun l hl => linesF_sLt hl
  have m := mnet_joins ap (linesF_ends g) _ (Nat.le_refl _)
  rw [List.take_of_length_le (Nat.le_refl _)] at m
  exact fun x hx y => m.same linesF_of g (.refl _) hx y
/-! ### lines taken out -/
abbrev Pr := Str × Str
def cutB (ps : List Pr) (x y : Str) : Bool := ps.any fun p => decide ((p.1 = x ∧ p.2 = y) ∨ (p.1 = y ∧ p.2 = x))
theorem cutB_symm (ps : List Pr) (x y : Str) : cutB ps x y = cutB ps y x := by
  unfold cutB
  congr 1
  funext p
  exact decide_eq_decide.mpr ⟨fun h => h.symm, fun h => h.symm⟩
def badP (ks : List Str) (f : Str → Row) (p : Pr) : Bool := !(decide (p.1 ∈ ks) && (look (f p.1) p.2).isSome)
def dropRow (l : Row) (y : Str) : Row := l.filter fun e => decide (e.1 ≠ y)
def dropR (f : Str → Row) (x y : Str) : Str → Row := fun z => if z = x then dropRow (f x) y else f z
def cutF (f : Str → Row) (p : Pr) : Str → Row := dropR (dropR f p.1 p.2) p.2 p.1
def cutsF (f : Str → Row) (ps : List Pr) : Str → Row := ps.foldl cutF f
theorem look_drop (l : Row) (y z : Str) : look (dropRow l y) z = if y = z then none else look l z := by
  unfold dropRow
  induction l with
  | nil => simp [look_nil]
  | cons e l ih =>
    obtain ⟨k, v⟩ := e
    rw [List.filter_cons]
    by_cases h : k = y
    · rw [if_neg (by simp [h]), ih, look_cons]
      by_cases c : y = z
      · simp [c]
      · rw [if_neg c, if_neg c, if_neg (fun q => c (h.symm.trans q))]
    · rw [if_pos (by simp [h]), look_cons, look_cons, ih]
      by_cases c : k = z
      · rw [if_pos c, if_pos c, if_neg (fun q => h (c.trans q.symm))]
      · rw [if_neg c, if_neg c]
theorem drop_nd {l : Row} {y : Str} (h : (l.map (·.1)).Nodup) : ((dropRow l y).map (·.1)).Nodup := by
  unfold dropRow
  exact (List.Sublist.map _ List.filter_sublist).nodup h
theorem encI_drop (l : Row) (y : Str) : dropK (encI l) (Sum.inr y) = encI (dropRow l y) := by
  unfold dropK encI dropRow
  rw [List.filter_map]
  congr 1
  apply List.filter_congr
  intro e _
  simp
theorem dropR_at (f : Str → Row) (x y : Str) : dropR f x y x = dropRow (f x) y := by unfold dropR; rw [if_pos rfl]
theorem dropR_ne {f : Str → Row} {x y z : Str} (h : z ≠ x) : dropR f x y z = f z := by unfold dropR; rw [if_neg h]
theorem look_dropR (f : Str → Row) (x y a b : Str) : look (dropR f x y a) b = if a = x ∧ b = y then none else look (f a) b := by
  by_cases h : a = x
  · subst h
    rw [dropR_at, look_drop]
    by_cases c : y = b
    · simp [c]
    · rw [if_neg c, if_neg (fun q => c q.2.symm)]
  · rw [dropR_ne h, if_neg (fun q => h q.1)]
theorem dropR_nd {f : Str → Row} {x y a : Str} (h : ((f a).map (·.1)).Nodup) : ((dropR f x y a).map (·.1)).Nodup := by
  by_cases c : a = x
  · subst c; rw [dropR_at]; exact drop_nd h
  · rw [dropR_ne c]; exact h
theorem look_cutF (f : Str → Row) (p : Pr) (a b : Str) : look (cutF f p a) b = if (p.1 = a ∧ p.2 = b) ∨ (p.1 = b ∧ p.2 = a) then none else look (f a) b := by
  unfold cutF
  rw [look_dropR, look_dropR]
  by_cases c : a = p.2 ∧ b = p.1
  · rw [if_pos c, if_pos (.inr ⟨c.2.symm, c.1.symm⟩)]
  · rw [if_neg c]
    by_cases d : a = p.1 ∧ b = p.2
    · rw [if_pos d, if_pos (.inl ⟨d.1.symm, d.2.symm⟩)]
    · rw [if_neg d, if_neg]
      rintro (⟨q, r⟩ | ⟨q, r⟩)
      · exact d ⟨q.symm, r.symm⟩
      · exact c ⟨r.symm, q.symm⟩
theorem look_cutsF (a b : Str) : ∀ (ps : List Pr) (f : Str → Row), look (cutsF f ps a) b = if cutB ps a b = true then none else look (f a) b
  | [], _ => by simp [cutsF, cutB]
  | p :: ps, f => by
    show look (cutsF (cutF f p) ps a) b = _
    rw [look_cutsF a b ps, look_cutF]
    unfold cutB
    rw [List.any_cons]
    by_cases c : (p.1 = a ∧ p.2 = b) ∨ (p.1 = b ∧ p.2 = a)
    · rw [if_pos c, decide_eq_true c, Bool.true_or, if_pos rfl]
      split <;> rfl
    · rw [if_neg c, decide_eq_false c, Bool.false_or]
theorem cutsF_nd {a : Str} : ∀ {ps : List Pr} {f : Str → Row}, ((f a).map (·.1)).Nodup → ((cutsF f ps a).map (·.1)).Nodup
  | [], _, h => h
  | _ :: ps, _, h => cutsF_nd (ps := ps) (dropR_nd (dropR_nd h))
theorem cutsF_succ {f : Str → Row} {ps : List Pr} {i : Nat} {p : Pr} (h : ps[i]? = some p) : cutsF f (ps.take (i + 1)) = cutF (cutsF f (ps.take i)) p := by
  rw [List.take_add_one, h]
  unfold cutsF
  rw [List.foldl_append]; rfl
def keepL (ps : List Pr) (l : Ln) : Bool := !cutB ps l.1 l.2.1
/-- made of the lines that are left -/
theorem joins_left {ks : List Str} {f : Str → Row} (hk : ks.Nodup) (g : GN ks f) (ps : List Pr) : Ends2 ks ((linesF ks f).filter (keepL ps)) ∧ RowsIn ks (joinsF (fun _ => []) ((linesF ks f).filter (keepL ps))) ∧ EqN ks (joinsF (fun _ => []) ((linesF ks f).filter (keepL ps))) (cutsF f ps) := by
  obtain ⟨B, _, g⟩ := g
  have hsub : ∀ l ∈ (linesF ks f).filter (keepL ps), l ∈ linesF ks f := fun l hl => (List.mem_filter.mp hl).1
  have en : Ends2 ks ((linesF ks f).filter (keepL ps)) := fun l hl => linesF_ends g l (hsub l hl)
  have ap : Apart ((linesF ks f).filter (keepL ps)) := apart_of ((linesF_nodup hk g).filter _) fun l hl => linesF_sLt (hsub l hl)
  have m := mnet_joins ap en _ (Nat.le_refl _)
  rw [List.take_of_length_le (Nat.le_refl _)] at m
  refine ⟨en, (RowsIn.nil ks).joins en, fun x hx y => ?_⟩
  rw [look_cutsF]
  have mem : ∀ (a b : Str) (v : Int), (a, b, v) ∈ (linesF ks f).filter (keepL ps) ↔ a ∈ ks ∧ sLt a b ∧ look (f a) b = some v ∧ cutB ps a b = false := fun a b v => by
    rw [List.mem_filter, mem_linesF]
    unfold keepL
    simp only [Bool.not_eq_true']
    constructor
    · rintro ⟨⟨p1, p2, p3⟩, p4⟩; exact ⟨p1, p2, p3, p4⟩
    · rintro ⟨p1, p2, p3, p4⟩; exact ⟨⟨p1, p2, p3⟩, p4⟩
  apply Option.ext
  intro v
  show look (joinsF (fun _ => []) ((linesF ks f).filter (keepL ps)) x) y = some v ↔ _
  rw [m.jn x y v hx]
  unfold Jn
  rw [mem, mem]
  constructor
  · rintro (⟨_, _, h3, h4⟩ | ⟨h1, h2, h3, h4⟩)
    · rw [if_neg (by rw [h4]; decide)]; exact h3
    · rw [cutB_symm, if_neg (by rw [h4]; decide), g.sym x y hx h1]; exact h3
  · intro h
    cases c : cutB ps x y with
    | true => rw [c, if_pos rfl] at h; cases h
    | false =>
      rw [c, if_neg (by decide)] at h
      have hy := (g.val x y v hx h).1
      rcases sLt_or (a := x) (b := y) with q | q | q
      · exact .inl ⟨hx, q, h, rfl⟩
      · rw [q, g.irr y hy] at h; cases h
      · exact .inr ⟨hy, q, by rw [← g.sym x y hx hy]; exact h, by rw [cutB_symm]; exact c⟩
theorem cut_row {H : Hp} {a b : Addr} {bs : Outer} {f : Str → Row} {x : Str} (n : NetAt H a bs f) (h : addrOf bs x = some b) (y : Str) : NetAt (upd H b (.dK (dropK (encI (f x)) (Sum.inr y)))) a bs (dropR f x y) := by
  refine ⟨?_, fun q hq => ?_, n.ks, n.nd⟩
  · rw [upd_ne (n.ne h).symm]; exact n.out
  · by_cases e : q.2 = b
    · have : q = (x, b) := nd_inj (List.nodup_cons.mp n.nd).2 hq (addrOf_mem h) e
      subst this
      rw [upd_same, dropR_at, encI_drop]
    · rw [upd_ne e, dropR_ne (fun z => e ?_)]
      · exact n.inn q hq
      · have : q = (x, b) := nd_inj n.ks hq (addrOf_mem h) z
        rw [this]
/-! ### pairs in the heap -/
def pairD (p : Pr) : D := .tup [.str p.1, .str p.2]
theorem Reps.pair {K : PySem.W.Frag} {H : Hp} {xs : List V} {ls : List Pr} {i : Nat} {v : V} (h : Reps K H xs (ls.map pairD)) (e : xs[i]? = some v) : ∃ l a, ls[i]? = some l ∧ v = .ref a ∧ SqT K H a [.str l.1, .str l.2] := by
  obtain ⟨d, hd, r⟩ := h.get' e
  rw [List.getElem?_map] at hd
  cases hl : ls[i]? with
  | none => rw [hl] at hd; cases hd
  | some l =>
    rw [hl] at hd
    cases hd
    cases r with
    | tup s rs =>
      refine ⟨l, _, rfl, rfl, ?_⟩
      cases rs with
      | cons r1 rs1 =>
        cases r1
        cases rs1 with
        | cons r2 rs2 =>
          cases r2
          cases rs2
          exact s
end L2
namespace L2
open PySem PySem.Spec PyProof.Rows
theorem find_first {α : Type} {q : α → Bool} {l : List α} {i : Nat} {x : α} (h : (l.take i).find? q = none) (e : l[i]? = some x) (b : q x = true) : l.find? q = some x := by
  have : l = l.take i ++ l.drop i := (List.take_append_drop i l).symm
  rw [this, List.find?_append, h]
  obtain ⟨hi, e⟩ := List.getElem?_eq_some_iff.mp e
  rw [List.drop_eq_getElem_cons hi, e]
  simp [b]
theorem cutB_succ {ps : List Pr} {i : Nat} {p : Pr} (h : ps[i]? = some p) (x y : Str) : cutB (ps.take (i + 1)) x y = (cutB (ps.take i) x y || decide ((p.1 = x ∧ p.2 = y) ∨ (p.1 = y ∧ p.2 = x))) := by
  unfold cutB
  rw [List.take_add_one, h, List.any_append]
  simp
theorem putK_len {κ : Type} [DecidableEq κ] (kvs : List (κ × V)) (k : κ) (v : V) : (putK kvs k v).length ≤ kvs.length + 1 := by
  unfold putK
  split
  · rw [List.length_map]; omega
  · simp
end L2
namespace L2
open PySem PySem.Spec PyProof.Rows
theorem NetAt.add2 {H : Hp} {a b : Addr} {bs : Outer} {f : Str → Row} {x : Str} (n : NetAt H a bs f) (hx : x ∉ bs.map (·.1)) (hp : H b = none) (hl : bs.length < sizeLine) :
    DPut (upd H b (.dK (encI (f x)))) a (.str x) (.ref b) (upd (upd H b (.dK (encI (f x)))) a (.dK (encO (bs ++ [(x, b)])))) ∧ NetAt (upd (upd H b (.dK (encI (f x)))) a (.dK (encO (bs ++ [(x, b)])))) a (bs ++ [(x, b)]) f := by
  have ab : a ≠ b := ne_of_none n.out hp
  have hn : ∀ q ∈ bs, q.2 ≠ b := fun q hq => ne_of_none (n.inn q hq) hp
  have p := DPut.k (H := upd H b (.dK (encI (f x)))) (k := Sum.inr x) (v := .ref b) (by rw [upd_ne ab]; exact n.out) (by unfold encO; rw [List.length_map]; exact hl)
  rw [encO_put hx] at p
  refine ⟨p, upd_same, fun q hq => ?_, ?_, ?_⟩
  · rcases List.mem_append.mp hq with c | c
    · have h1 : q.2 ≠ a := fun e => (List.nodup_cons.mp n.nd).1 (e ▸ List.mem_map.mpr ⟨_, c, rfl⟩)
      rw [upd_ne h1, upd_ne (hn q c)]; exact n.inn q c
    · rw [List.mem_singleton.mp c]
      show upd _ _ _ b = some (.dK (encI (f x)))
      rw [upd_ne ab.symm, upd_same]
  · rw [List.map_append]; exact nd_snoc n.ks hx
  · rw [List.map_append, ← List.cons_append]
    refine nd_snoc n.nd (fun h => ?_)
    rcases List.mem_cons.mp h with e | e
    · exact ab e.symm
    · obtain ⟨q, hq, e⟩ := List.mem_map.mp e
      exact hn q hq e
theorem NetAt.updo {H : Hp} {p a : Addr} {cs : Outer} {f : Str → Row} {o : HO} (n : NetAt H p cs f) (h1 : p ≠ a) (h2 : ∀ z ∈ cs, z.2 ≠ a) : NetAt (upd H a o) p cs f :=
  ⟨by rw [upd_ne h1]; exact n.out, fun z hz => by rw [upd_ne (h2 z hz)]; exact n.inn z hz, n.ks, n.nd⟩
theorem Reps.tupsP {K : PySem.W.Frag} {H H' : Hp} (h : ∀ a zs, SqT K H a zs → SqT K H' a zs) : ∀ {ls : List Pr} {xs : List V}, Reps K H xs (ls.map pairD) → Reps K H' xs (ls.map pairD)
  | [], _, r => by cases r; exact .nil
  | l :: ls, _, r => by
    cases r with
    | cons r1 r2 =>
      refine .cons ?_ (Reps.tupsP h r2)
      unfold pairD at r1 ⊢
      cases r1 with
      | tup h1 h2 =>
        cases h2 with
        | cons a t => cases t with
          | cons b t => cases t; cases a; cases b; exact .tup (h _ _ h1) (.cons (.str _) (.cons (.str _) .nil))
def PairsAt (K : PySem.W.Frag) (H : Hp) (p : Addr) (ps : List Pr) : Prop := ∃ xs, H p = some (.lst xs) ∧ Reps K H xs (ps.map pairD)
theorem PairsAt.same {K : PySem.W.Frag} {H H' : Hp} {p : Addr} {ps : List Pr} (h : PairsAt K H p ps) (s : Same H H') : PairsAt K H' p ps := by
  obtain ⟨xs, h1, h2⟩ := h
  exact ⟨xs, s _ _ h1, h2.sm s.sm⟩
end L2
namespace L2
open PySem PySem.Spec PyProof.Rows
theorem atI_get2 {xs : List V} {i : Int} (h0 : 0 ≤ i) (h1 : i < xs.length) : ∃ v, xs[i.toNat]? = some v ∧ atI xs i = some v := by
  obtain ⟨k, rfl⟩ := Int.eq_ofNat_of_zero_le h0
  have hk : k < xs.length := by omega
  exact ⟨xs[k], by simp [hk], atI_nat (List.getElem?_eq_getElem hk)⟩
theorem sqT_upd {K : PySem.W.Frag} {H : Hp} {p a : Addr} {xs zs : List V} {o : HO} (h : H p = some (.lst xs)) (hz : SqT K H a zs) : SqT K (upd H p o) a zs := by
  have ne : ∀ u, H a = some u → (∀ ys, u ≠ .lst ys) → a ≠ p := fun u e hu z => by rw [z, h] at e; exact hu xs (Option.some.inj e).symm
  rcases hz with (r | ⟨ob, r⟩) | r
  · exact .inl (.inl (by rw [upd_ne (ne _ r (fun _ z => by cases z))]; exact r))
  · exact .inl (.inr ⟨ob, by rw [upd_ne (ne _ r (fun _ z => by cases z))]; exact r⟩)
  · exact .inr r
end L2
namespace L2
open PySem PySem.Spec PyProof.Rows
theorem NS0.same {H : Hp} {p : Addr} {ks : List Str} {g : Str → Row} {H2 : Hp} (h : NS0 H p ks g H2) : Same H H2 := by obtain ⟨_, s, _⟩ := h; exact s
/-- what comes of lines taken out: a net, or the first that is no line -/
def ResV (H H' : Hp) (ks : List Str) (g : Str → Row) (o : Option Pr) (v : V) : Prop := match o with
  | none => ∃ p, v = .ref p ∧ NS0 H p ks g H'
  | some pr => ∃ p, v = .ref p ∧ H p = none ∧ H' p = some (.tup [.str pr.1, .str pr.2])
/-- two answers alike; the first a tuple, or a net of its own -/
def Twin (K : PySem.W.Frag) (H0 H : Hp) (v u : V) : Prop := ∃ p q d d', v = .ref p ∧ u = .ref q ∧ Rep K H v d ∧ Rep K H u d' ∧ DEq d d' ∧ d.dep ≤ 8 ∧
  (isiB d.ty "dict" = false ∨ (isiB d.ty "dict" = true ∧ ∃ cs g, NetAt H p cs g ∧ New H0 p cs))
theorem Twin.same {K : PySem.W.Frag} {H0 H H' : Hp} {v u : V} (h : Twin K H0 H v u) (s : Same H H') : Twin K H0 H' v u := by
  obtain ⟨p, q, d, d', h1, h2, h3, h4, h5, h6, h7⟩ := h
  refine ⟨p, q, d, d', h1, h2, h3.sm s.sm, h4.sm s.sm, h5, h6, h7.imp id fun ⟨e, cs, g, n, nw⟩ => ⟨e, cs, g, n.same s, nw⟩⟩
theorem twin_nets {K : PySem.W.Frag} {H0 H : Hp} {p q : Addr} {cs ds : Outer} {g g' : Str → Row} {ks : List Str} (n : NetAt H p cs g) (m : NetAt H q ds g') (nw : New H0 p cs) (hk : cs.map (·.1) = sortS ks) (hd : ds.map (·.1) = ks) (e : EqN ks g g') (r : RowsIn ks g) (r' : ∀ x ∈ ks, ((g' x).map (·.1)).Nodup) : Twin K H0 H (.ref p) (.ref q) := by
  have r1 := n.r.rep (K := K)
  have r2 := m.r.rep (K := K)
  rw [hk] at r1
  rw [hd] at r2
  refine ⟨p, q, _, _, rfl, rfl, r1, r2, netD_deq (sortS_perm ks) (fun x hx => r.nd x (mem_sortS.mp hx)) r' (fun x hx k => e x (mem_sortS.mp hx) k), Nat.le_trans (netD_dep _ _) (by decide), .inr ⟨rfl, cs, g, n, nw⟩⟩
theorem twin_res {K : PySem.W.Frag} {H0 H1 H2 H3 : Hp} {ks : List Str} {f : Str → Row} {ps : List Pr} {v u : V} (hk : ks.Nodup) (g : GN ks f) (s : Same H0 H1) (s2 : Same H1 H2) (s3 : Same H2 H3) (hu : ResV H1 H2 ks (cutsF f ps) (ps.find? (badP ks f)) u)
    (hv : ResV H2 H3 (sortS ks) (joinsF (fun _ => []) ((linesF ks f).filter (keepL ps))) (ps.find? (badP ks f)) v) : Twin K H0 H3 v u := by
  cases hf : ps.find? (badP ks f) with
  | none =>
    rw [hf] at hu hv
    obtain ⟨q, rfl, ds, _, m, hd, _⟩ := hu
    obtain ⟨p, rfl, cs, _, n, hc, nw⟩ := hv
    obtain ⟨_, r, e⟩ := joins_left hk g ps
    exact twin_nets n (m.same s3) (nw.same (s.trans s2)) hc hd e r fun x hx => cutsF_nd (g.rows.nd x hx)
  | some pr =>
    rw [hf] at hu hv
    obtain ⟨q, rfl, _, h2⟩ := hu
    obtain ⟨p, rfl, _, h4⟩ := hv
    have r1 : Rep K H3 (.ref p) (.tup [.str pr.1, .str pr.2]) := .tup (SqT.of h4) (.cons (.str _) (.cons (.str _) .nil))
    have r2 : Rep K H3 (.ref q) (.tup [.str pr.1, .str pr.2]) := .tup (SqT.of (s3 _ _ h2)) (.cons (.str _) (.cons (.str _) .nil))
    exact ⟨p, q, _, _, rfl, rfl, r1, r2, .same rfl, by show 1 ≤ 8; decide, .inl rfl⟩
end L2

set_option Elab.async false
set_option linter.all false
set_option maxRecDepth 100000
set_option maxHeartbeats 4000000
/-! rules: dict(d), d != {}, enumerate, // by great numbers, a callee that may raise and doesn't (own work) -/
namespace L2
open PySem PySem.Spec PyProof.Rows PySem.SeqAt
section
variable {P : Program} {w : World} {κ : Type} [DecidableEq κ] {kd : KeyKind P w κ} {A : Around} {E : Value → Shared → Prop} {s : Shared}
theorem pairs_unlike {nm : String} {p q : Addr} {ps qs : List (κ × Value)} {Q : Bool → Shared → Prop} (np : (p == sysModules) = false) (nq : (q == sysModules) = false) (dp : s.heap.DictOf kd p ps) (dq : s.heap.DictOf kd q qs)
    (hl : ps.length ≠ qs.length) (h : Q false s) : wpAny (model P w) A (Builtin.Dict.samePairs nm p q) Q E s := by
  obtain ⟨o1, e1, n1, g1, _, d1, k1, r1, _⟩ := dp
  obtain ⟨o2, e2, n2, g2, _, d2, k2, r2, _⟩ := dq
  have l1 : ps.length = e1.size := (r1.length).symm.trans Array.length_toList
  have l2 : qs.length = e2.size := (r2.length).symm.trans Array.length_toList
  have sz : e1.size ≠ e2.size := by omega
  unfold Builtin.Dict.samePairs Builtin.Dict.showsAll
  have np' : ¬ (p == sysModules) = true := by rw [np]; decide
  have nq' : ¬ (q == sysModules) = true := by rw [nq]; decide
  rw [if_neg np', if_neg nq']
  refine wpAny_bind (wpAny_pure (wpAny_bind (wpAny_pure (wpAny_bind (wpAny_dictEntries g1 d1 ?_)))))
  dsimp only
  refine wpAny_bind (wpAny_dictEntries g2 d2 ?_)
  rw [if_pos (by simpa using sz)]
  exact wpAny_bind (wpAny_rule (wpAny_pure h))
theorem dict_ne_true {p q : Addr} {ps qs : List (κ × Value)} {Q : Value → Shared → Prop} (np : (p == sysModules) = false) (nq : (q == sysModules) = false) (dp : s.heap.DictOf kd p ps) (dq : s.heap.DictOf kd q qs) (hu : A.units < cLine)
    (hl : ps.length ≠ qs.length) (h : Q (.bool true) s) : wpAny (model P w) A (compareOp .NotEq (.ref p) (.ref q)) Q E s := by
  refine wpAny_richCompare_same_room (op := .NotEq) dp.typeIs dq.typeIs PySem.F.slot_dict_ne (wpAny_call_entry PySem.F.slot_dict_ne dp.typeIs PySem.F.entry_dict_ne ?_ (PySem.F.args_dict_ne_2 _ _)) hu
  show wpAny _ _ (Builtin.Dict.dictSlotArgs "__ne__" ⟨[.ref p, .ref q], []⟩ >>= _) _ _ s
  refine wpAny_bind (dict_slot2 (qs := qs) dp.typeIs (wpAny_bind (wpAny_isInstance (T := "dict") dq.typeIs PySem.F.sub_dict_dict ?_)))
  simp only [Bool.not_true, Bool.false_eq_true, if_false]
  exact wpAny_bind (wpAny_pure (wpAny_bind (wpAny_pure (wpAny_bind (pairs_unlike np nq dp dq hl (wpAny_pure ⟨_, rfl, (fun x => nomatch x), h⟩))))))
end
section
variable {X : Cx}
theorem call_dictOf : CallR X (.type "dict") (fun xs H Q => ∃ a kvs, xs = [.ref a] ∧ Rd H a (.dK kvs) ∧ ∀ p, H p = none → Q (.ref p) (upd H p (.dK kvs))) := by
  rintro pins s σ H xs us Q I r ⟨a, kvs, rfl, hr, q⟩
  obtain ⟨u, rfl, ru⟩ := vals1 r
  cases ru
  exact d_copyOf I hr fun p s' hp I' => ⟨.ref p, _, I', rfl, q p hp⟩
theorem op_ne0D (hu : X.A.units < cLine) : OpR X (compareOp .NotEq) (fun x y H Q => ∃ a b kvs, x = .ref a ∧ y = .ref b ∧ Rd H a (.dK kvs) ∧ Rd H b (.dK []) ∧ Q (.bl (!kvs.isEmpty)) H) := by
  rintro pins s σ H x y v u Q I rx ry ⟨a, b, kvs, rfl, rfl, h1, h2, q⟩
  cases rx; cases ry
  obtain ⟨z, hd, vs, rel, dd⟩ := dk_rd I.hok h1
  obtain ⟨z2, hd2, vs2, rel2, dd2⟩ := dk_rd I.hok h2
  have l1 := Paired.length rel
  have l2 := Paired.length rel2
  cases kvs with
  | nil =>
    have e1 : vs = [] := List.length_eq_zero_iff.mp l1.symm
    subst e1
    exact dict_ne_false hd hd2 dd dd2 hu l2 (fun k v h => absurd h (by simp)) ⟨.bl false, H, I, rfl, q⟩
  | cons e kvs =>
    refine dict_ne_true hd hd2 dd dd2 hu ?_ ⟨.bl true, H, I, rfl, q⟩
    rw [← l1, ← l2]; simp
/-- a great divisor -/
theorem op_fdivB : OpR X (binaryOp .FloorDiv) (rI (fun _ j => 0 < j ∧ j.natAbs.log2 < 9000) fun i j => .int (i / j)) := opI fun i j _ _ _ _ _ hc q => by
  have e : i.fdiv j = i / j := Int.fdiv_eq_ediv_of_nonneg i (Int.le_of_lt hc.1)
  exact floordiv_int (Int.ne_of_gt hc.1) (by rw [e]; exact q) (.inl (PyProof.noPylong_of_log2 hc.2))
/-- a callee that may raise, where it doesn't -/
theorem passQ {P : Program} {w : World} : Passes (CXe P w) X E0 := fun _ _ _ _ _ _ _ h => by
  obtain ⟨x, C, od, H', _, _, _, _, _, _, _, _, hE⟩ := h
  exact hE.elim
variable {pins : List (Addr × Obj)} {σ : St} {H : Hp} {s : Shared} {h' : Heap}
theorem Inv.turned2 {t' : Nat} {e it : Addr} (I : Inv X pins σ H s) (k : ∀ b o, b ≠ e → b ≠ it → s.heap.get? b = some o → h'.get? b = some o) (fe : FpOk X pins H e) (ft : FpOk X pins H it) : Inv X pins σ H { s with heap := h', toks := t' } := by
  obtain ⟨a0, a1, a2, a3, a4, a5⟩ := fe
  obtain ⟨b0, b1, b2, b3, b4, b5⟩ := ft
  have n1 : ∀ b u, H b = some u → b ≠ e := fun b u q z => by rw [z, a0] at q; cases q
  have n2 : ∀ b u, H b = some u → b ≠ it := fun b u q z => by rw [z, b0] at q; cases q
  refine I.step (g' := s.gens) (d' := s.drawn) (ch := [e, it]) (fun b hb => ?_) (fun b o _ _ hc q _ => k b o (fun z => hc (by simp [z])) (fun z => hc (by simp [z])) q) (fun b o _ _ hc q _ => ⟨o.slots, k b o (fun z => hc (by simp [z])) (fun z => hc (by simp [z])) q⟩) (fun _ _ _ _ n => n)
    (fun b o hc q => ⟨o, k b o (fun z => hc (by simp [z])) (fun z => hc (by simp [z])) q⟩) (fun _ _ q => q) (fun _ _ _ q => q) (fun b ps q => ⟨#[], by rw [q]; simp⟩) (fun m hm => ?_) (fun b u q => ?_) I.bare
  · rcases (by simpa using hb : b = e ∨ b = it) with rfl | rfl
    · exact ⟨a3, a1, a4, a5⟩
    · exact ⟨b3, b1, b4, b5⟩
  · obtain ⟨o, es, ep, ho, r⟩ := hm
    exact ⟨o, es, ep, k _ o (Ne.symm a1) (Ne.symm b1) ho, r⟩
  · refine (I.hok b u q).stay (fun c v hc r => k c v ?_ ?_ r) (fun _ q => q) fun _ _ q => q
    · rcases hc with z | z
      · rw [z]; exact n1 b u q
      · exact n1 c _ z
    · rcases hc with z | z
      · rw [z]; exact n2 b u q
      · exact n2 c _ z
end
/-! ### enumerate -/
def Ite (K : PySem.W.Frag) (a : Addr) (xs : List V) : It :=
  ⟨fun i H => SqL K H a xs ∧ i < xs.length, fun i H v H' => ∃ p x, H p = none ∧ v = .ref p ∧ xs[i]? = some x ∧ H' = upd H p (.tup [.int i, x]), fun i H => SqL K H a xs ∧ i = xs.length⟩
theorem turn_enum {P : Program} {w : World} {K : PySem.W.Frag} {elts : List Expr} {x1} {tpos : Pos} (a e it : Addr) (xs : List V) (hne : e ≠ it) : Turn P w K (.Tuple elts x1 tpos) (Ite K a xs) [e, it] e (fun i h => ∃ old, IsEnum h e it i old ∧ h.IsListIter it a i) where
  mem := by simp
  obj := fun i h st b hb => by
    obtain ⟨old, he, o, e1, c, d⟩ := st
    rcases (by simpa using hb : b = e ∨ b = it) with rfl | rfl
    · exact ⟨_, he, fun v z => by cases z⟩
    · exact ⟨o, e1, fun v z => by rw [d] at z; cases z⟩
  keep := fun i h h' st k => by
    obtain ⟨old, he, hi⟩ := st
    exact ⟨old, k e (by simp) _ he, hi.at fun o q => k it (by simp) o q⟩
  item := by
    intro X hP hw hK hc i pins s σ H E I hf st hg
    subst hP hw hK
    obtain ⟨hq, hi⟩ := hg
    obtain ⟨old, he, hit⟩ := st
    obtain ⟨its, rv, p, hz⟩ := I.list hq
    obtain ⟨x, hx⟩ : ∃ x, xs[i]? = some x := ⟨_, List.getElem?_eq_getElem hi⟩
    obtain ⟨u, hu, ru⟩ := rv.get hx
    have fe := hf e (by simp)
    have ft := hf it (by simp)
    have le : e < s.heap.objs.size := Heap.lt_size he
    have lt : it < s.heap.objs.size := by obtain ⟨o, e1, _⟩ := hit; exact Heap.lt_size e1
    have hN : H s.heap.objs.size = none := I.hok.fresh (Nat.le_refl _)
    refine wpAny_pyNext_enum_item he hit p.isList (x := u) (by simpa using hu) hne fun h₁ heo hit₁ ht₁ hz₁ hk₁ => ⟨_, rfl, ?_⟩
    refine wpAny_letOwnedTupleGo_enum heo fun h₂ he₂ hs₂ => ?_
    replace hs₂ : Heap.SameBut e h₁ h₂ := hs₂
    have I1 : Inv X pins σ (upd H s.heap.objs.size (.tup [.int i, x])) { s with heap := s.heap.push { cls := .type "tuple", data := .seq #[.int i s.toks, u] }, toks := s.toks } :=
      I.laid (t' := s.toks) (fun b o q => Heap.get?_push_of_some _ q) (Nat.le_refl _) ⟨by show 2 ≤ sizeLine; decide, [.int i s.toks, u], .cons ⟨_, rfl⟩ (.cons ru .nil), ⟨_, Heap.get?_push_size _ rfl, rfl, _, rfl⟩⟩
    have nf : ∀ b, b < s.heap.objs.size → FpOk X pins H b → FpOk X pins (upd H s.heap.objs.size (.tup [.int i, x])) b := fun b hb f => ⟨by rw [upd_ne (Nat.ne_of_lt hb)]; exact f.1, f.2⟩
    have I2 : Inv X pins σ (upd H s.heap.objs.size (.tup [.int i, x])) { s with heap := h₂, toks := s.toks + 1 } := I1.turned2 (t' := s.toks + 1) (fun b o hb1 hb2 q => by
      rw [hs₂.2 b hb1]
      rcases Heap.get?_push_cases q with ⟨z1, z2⟩ | z
      · rw [z1, z2]; exact ht₁
      · exact hk₁ b o hb1 hb2 z) (nf e le fe) (nf it lt ft)
    refine ⟨.ref s.heap.objs.size, _, I2, rfl, ⟨_, x, hN, rfl, hx, rfl⟩, ⟨u, ?_, ?_⟩, fun b hb => ?_⟩
    · have : ((i + 1 : Nat) : Int) = (i : Int) + 1 := by omega
      rw [this]; exact he₂
    · exact hit₁.extBut hs₂.extBut (Ne.symm hne)
    · rcases (by simpa using hb : b = e ∨ b = it) with rfl | rfl
      · exact (nf b le fe).1
      · exact (nf b lt ft).1
  done := by
    intro X hP hw hK hc i pins s σ H E I hf st hg
    subst hP hw hK
    obtain ⟨hq, hi⟩ := hg
    obtain ⟨old, he, hit⟩ := st
    obtain ⟨its, rv, p, hz⟩ := I.list hq
    have hl := rv.length
    obtain ⟨f0, f1, f2, f3, f4, f5⟩ := hf it (by simp)
    exact wpAny_pyNext_enum_end (I.ok.hd hc) he hit p.isList (by simp; omega) fun h' eb => ⟨rfl, I.turned (t' := s.toks) (fun b o hb e => eb b o hb e) f0 f1 f3 f4 f5⟩
  self := fun _ _ _ _ _ st h => by
    obtain ⟨old, he, _⟩ := st
    exact wpAny_pyIter_enum he h
theorem boot_ty_enumerate : bootBuiltins "enumerate" = some (.type "enumerate") := by decide +kernel
def iEnum (K : PySem.W.Frag) (ta : TA) : TI := fun σ H R => ta σ H fun vs H1 => ∃ a xs, vs = [.ref a] ∧ H1 a = some (.lst xs) ∧ R (Ite K a xs) H1
section
variable {X : Cx}
theorem pi_enumL {a : Expr} {ta : TA} {p pos : Pos} {elts : List Expr} {x1} {tpos : Pos} (hg : Gl X "enumerate") (hm : X.mg "enumerate" = none) (ha : PA X [a] ta) (hs : starEach [a] X.env = [(false, eval a X.env)] := by rfl) : PI X (.Tuple elts x1 tpos) (.Call (.Name "enumerate" p) [a] [] pos) (iEnum X.K ta) := by
  intro pins s σ H R I h
  refine Call_ (ld_blt I hg hm boot_ty_enumerate (PyProof.Rows.callWith_type1 (thn (ha pos pins s σ H _ I h) fun us s1 ⟨vs, H1, I1, r1, q1⟩ => ?_) hs rfl))
  obtain ⟨l, xs, e, hq, q⟩ := q1
  subst e
  obtain ⟨u, rfl, ru⟩ := vals1 r1
  cases ru
  obtain ⟨z, its, n, rv, ho⟩ := I1.hok _ _ hq
  refine call_enumerate_1 ho fun h' he hit hz hk => ?_
  refine wpAny_pyIter_enum (s := { s1 with heap := h' }) he ?_
  have I2 : Inv X pins σ H1 { s1 with heap := h', toks := s1.toks } := I1.kept (t' := s1.toks) fun b o e => hk b o e
  refine ⟨s1.heap.objs.size + 1, [s1.heap.objs.size + 1, s1.heap.objs.size], _, _, H1, rfl, I2, turn_enum l _ _ xs (Nat.succ_ne_self _), ⟨.none, he, hit⟩, fun b hb => ?_, q⟩
  rcases (by simpa using hb : b = s1.heap.objs.size + 1 ∨ b = s1.heap.objs.size) with rfl | rfl
  · exact I1.fpOk (Nat.le_succ _) (I1.hok.fresh (Nat.le_succ _))
  · exact I1.fpOk (Nat.le_refl _) (I1.hok.fresh (Nat.le_refl _))
end
/-- over enumerate of a list that the body leaves as it is -/
theorem for_enum {K : PySem.W.Frag} {a : Addr} {xs : List V} {g : TG} {tb : TS} {D : Ends} {σ : St} {H : Hp} (Pv : Nat → St → Hp → Prop) (h0 : Pv 0 σ H) (hl : ∀ i σ H, i ≤ xs.length → Pv i σ H → SqL K H a xs)
    (hs : ∀ i x p σ H, xs[i]? = some x → Pv i σ H → H p = none → g (.ref p) σ (upd H p (.tup [.int i, x])) fun σ2 H2 => tb { D with nx := Pv (i + 1), ct := Pv (i + 1), bk := D.nx } σ2 H2) (hd : ∀ σ H, Pv xs.length σ H → D.nx σ H) :
    ∃ W : Nat → Nat → St → Hp → Prop, (∃ m, W 0 m σ H) ∧ ∀ i m σ H, W i m σ H →
      ((Ite K a xs).stop i H ∧ D.nx σ H) ∨ ((Ite K a xs).go i H ∧ ∃ N : St → Hp → Prop, (∀ σ' H', N σ' H' → ∃ m', m' < m ∧ W (i + 1) m' σ' H') ∧ ∀ x H', (Ite K a xs).yld i H x H' → g x σ H' fun σ2 H2 => tb { D with nx := N, ct := N, bk := D.nx } σ2 H2) := by
  refine ⟨fun i m σ H => m = xs.length - i ∧ i ≤ xs.length ∧ Pv i σ H, ⟨xs.length, by simp, Nat.zero_le _, h0⟩, ?_⟩
  rintro i m σ H ⟨rfl, hi, p⟩
  have q := hl i σ H hi p
  by_cases hlt : i < xs.length
  · refine .inr ⟨⟨q, hlt⟩, Pv (i + 1), fun σ' H' p' => ⟨xs.length - (i + 1), by omega, rfl, hlt, p'⟩, fun v H' y => ?_⟩
    obtain ⟨pp, x, h1, rfl, h2, rfl⟩ := y
    exact hs i x pp σ H h2 p h1
  · have : i = xs.length := by omega
    subst this
    exact .inl ⟨⟨q, rfl⟩, hd σ H p⟩
end L2
namespace L2
open PySem PySem.Spec PyProof.Rows
section
variable {X : Cx} {o e f : Expr} {apos cpos : Pos} {td ty tx : TE}
theorem dropK_none {κ : Type} [DecidableEq κ] {kvs : List (κ × V)} {k : κ} (h : valV kvs k = none) : dropK kvs k = kvs := by
  unfold dropK
  rw [List.filter_eq_self]
  intro z hz
  simp only [ne_eq, decide_eq_true_eq]
  intro q
  exact valV_not h (List.mem_map.mpr ⟨z, hz, q⟩)
theorem upd_self {H : Hp} {a : Addr} {o : HO} (h : H a = some o) : upd H a o = H := by
  funext b
  unfold upd
  split
  · rename_i c; rw [c, h]
  · rfl
/-- d.pop(k, x), whatever comes back -/
def tDPopU (td ty tx : TE) : TE := fun σ H Q => td σ H fun x H1 => ∃ a, x = .ref a ∧ IsD H1 a ∧ ty σ H1 fun y H2 => tx σ H2 fun _ H3 => ∃ kvs k, H3 a = some (.dK kvs) ∧ y = kV k ∧ ∀ v, Q v (upd H3 a (.dK (dropK kvs k)))
theorem pe_dpopU (ho : PE X o td) (he : PE X e ty) (hf : PE X f tx) (m : M2 X o "pop" apos e f cpos) : PE X (.Call (.Attribute o "pop" apos) [e, f] [] cpos) (tDPopU td ty tx) := by
  intro pins s σ H Q I h
  refine wpAny_Call_method m.base m.few m.line PySem.F.plainAttrs_dict PySem.F.slot_dict_pop PySem.F.type_dict_pop (thn (ho pins s σ H _ I h) fun u s1 ⟨x, H1, I1, rx, a, ex, d, q1⟩ => ?_)
  subst ex
  obtain rfl : u = Value.ref a := rx
  obtain ⟨t1, t2, _⟩ := isD_at I1 d
  refine ⟨t1, t2, ?_⟩
  rw [m.trees]
  refine Calls.callWith_builtin rfl (Calls.evalArgs_plain (Calls.spliced_cons (thn (he pins s1 σ H1 _ I1 q1) fun iv s2 ⟨y, H2, I2, ry, q2⟩ =>
    Calls.spliced_cons (thn (hf pins s2 σ H2 _ I2 q2) fun fv s3 ⟨z, H3, I3, rz, kvs, k, ea, ey, q3⟩ => Calls.spliced_nil ?_))))
  subst ey
  cases l : valV kvs k with
  | some v => exact d_pop I3 ea ry l (.inr ⟨fv, rfl⟩) fun w' s4 I4 rw' => ⟨v, _, I4, rw', q3 v⟩
  | none =>
    have q4 := q3 z
    rw [dropK_none l, upd_self ea] at q4
    exact d_popD I3 ea ry l fun s4 I4 => ⟨z, H3, I4, rz, q4⟩
end
end L2
namespace L2
open PySem PySem.Spec PyProof.Rows
end L2
namespace L2
open PySem PySem.Spec PyProof.Rows
theorem sl_tupK {X : Cx} {K : PySem.W.Frag} (hK : X.K = K) : SlR X (rSlT K) := by subst hK; exact sl_tup
end L2
namespace L2
open PySem PySem.Spec PyProof.Rows
theorem seqIf {c : TT} {a b u : TS} {D : Ends} {σ : St} {H : Hp} (R : St → Hp → Prop) (hR : ∀ σ H, R σ H → u D σ H) (h1 : (∀ σ H, R σ H → u D σ H) → tIfS c a b { D with nx := u D } σ H) : tSeq (tIfS c a b) u D σ H := h1 hR
end L2

namespace L2
open PySem PySem.Spec PyProof.Rows
theorem kit_by {K : PySem.W.Frag} {mg : Str → Option Value} {x y : Str} {u v u' v' : Value} {b : Bool} (h1 : mg x = some u) (h1' : mg x = some u') (h2 : mg y = some v) (h2' : mg y = some v') (k : PySem.W.kitOne K u v = some b) : PySem.W.kitOne K u' v' = some b := by
  rw [h1] at h1'
  rw [h2] at h2'
  cases h1'
  cases h2'
  exact k
end L2
namespace L2
open PySem PySem.Spec PyProof.Rows
theorem kit_mk {K : PySem.W.Frag} {ns : Addr} {x y : Str} {u v : Value} {b : Bool} (h1 : PySem.W.nsIn K ns x = some (some u)) (h2 : PySem.W.nsIn K ns y = some (some v)) (k : PySem.W.kitOne K u v = some b) :
    ∃ u v : Value, PySem.W.nsIn K ns x = some (some u) ∧ PySem.W.nsIn K ns y = some (some v) ∧ PySem.W.kitOne K u v = some b := ⟨u, v, h1, h2, k⟩
end L2

set_option Elab.async false
set_option linter.all false
set_option maxRecDepth 100000
set_option maxHeartbeats 4000000
namespace K05
open PySem L2 PySem.Spec PyProof.Rows
def top (i : Nat) : Stmt := PySem.Challenge.pw_spareline_k05_less_and_joined.main.body.getD i (.Pass ⟨0, 0, 0, 0⟩)
abbrev s_lines_in : Stmt := top 6
abbrev s_net_less : Stmt := top 7
abbrev s_net_joined : Stmt := top 8
abbrev s_net_of : Stmt := top 9
abbrev s_join_line : Stmt := top 10
abbrev s_has_place : Stmt := top 11
abbrev s_has_line : Stmt := top 12
abbrev s_l_cell_at : Stmt := top 14
abbrev s_l_mix : Stmt := top 15
abbrev s_l_names : Stmt := top 16
abbrev s_l_net : Stmt := top 17
abbrev s_l_copied : Stmt := top 18
abbrev s_l_some_lines : Stmt := top 19
abbrev s_l_less_due : Stmt := top 20
abbrev s_l_less : Stmt := top 21
abbrev s_l_joins : Stmt := top 22
abbrev s_l_joined_due : Stmt := top 23
abbrev s_l_good : Stmt := top 24
abbrev s_law : Stmt := top 25
abbrev s_NoLine_i : Stmt := inClass (top 3) 0
structure Adr where
  lines_in : Addr
  fd_lines_in : FuncData
  net_less : Addr
  fd_net_less : FuncData
  net_joined : Addr
  fd_net_joined : FuncData
  net_of : Addr
  fd_net_of : FuncData
  join_line : Addr
  fd_join_line : FuncData
  has_place : Addr
  fd_has_place : FuncData
  has_line : Addr
  fd_has_line : FuncData
  l_cell_at : Addr
  fd_l_cell_at : FuncData
  l_mix : Addr
  fd_l_mix : FuncData
  l_names : Addr
  fd_l_names : FuncData
  l_net : Addr
  fd_l_net : FuncData
  l_copied : Addr
  fd_l_copied : FuncData
  l_some_lines : Addr
  fd_l_some_lines : FuncData
  l_less_due : Addr
  fd_l_less_due : FuncData
  l_less : Addr
  fd_l_less : FuncData
  l_joins : Addr
  fd_l_joins : FuncData
  l_joined_due : Addr
  fd_l_joined_due : FuncData
  l_good : Addr
  fd_l_good : FuncData
  law : Addr
  fd_law : FuncData
  NoLine : Addr
  NoLine_i : Addr
  fd_NoLine_i : FuncData
  NetError : Addr
  NoPlace : Addr
  OldLine : Addr
structure Txt (K : PySem.W.Frag) (mg : Str → Option Value) (t : Adr) : Prop where
  f_lines_in : Top K mg "lines_in" s_lines_in ["net"] t.lines_in t.fd_lines_in
  f_net_less : Top K mg "net_less" s_net_less ["net", "lines"] t.net_less t.fd_net_less
  f_net_joined : Top K mg "net_joined" s_net_joined ["net", "lines"] t.net_joined t.fd_net_joined
  f_net_of : Top K mg "net_of" s_net_of ["places", "lines"] t.net_of t.fd_net_of
  f_join_line : Top K mg "join_line" s_join_line ["net", "one", "other", "many"] t.join_line t.fd_join_line
  f_has_place : Top K mg "has_place" s_has_place ["net", "thing"] t.has_place t.fd_has_place
  f_has_line : Top K mg "has_line" s_has_line ["net", "one", "other"] t.has_line t.fd_has_line
  f_l_cell_at : Top K mg "_law_cell_at" s_l_cell_at ["_law_script", "_law_k"] t.l_cell_at t.fd_l_cell_at
  f_l_mix : Top K mg "_law_mix" s_l_mix ["_law_cell", "_law_k"] t.l_mix t.fd_l_mix
  f_l_names : Top K mg "_law_names" s_l_names ["_law_cell", "_law_many"] t.l_names t.fd_l_names
  f_l_net : Top K mg "_law_net" s_l_net ["_law_script", "_law_names_here", "_law_bound"] t.l_net t.fd_l_net
  f_l_copied : Top K mg "_law_copied" s_l_copied ["_law_net_here"] t.l_copied t.fd_l_copied
  f_l_some_lines : Top K mg "_law_some_lines" s_l_some_lines ["_law_net_here", "_law_cell"] t.l_some_lines t.fd_l_some_lines
  f_l_less_due : Top K mg "_law_less_due" s_l_less_due ["_law_net_here", "_law_lines"] t.l_less_due t.fd_l_less_due
  f_l_less : Top K mg "_law_less" s_l_less ["_law_net_here", "_law_lines"] t.l_less t.fd_l_less
  f_l_joins : Top K mg "_law_joins" s_l_joins ["_law_net_here", "_law_cell"] t.l_joins t.fd_l_joins
  f_l_joined_due : Top K mg "_law_joined_due" s_l_joined_due ["_law_net_here", "_law_lines"] t.l_joined_due t.fd_l_joined_due
  f_l_good : Top K mg "_law_good" s_l_good ["_law_net_here", "_law_cell"] t.l_good t.fd_l_good
  f_law : Top K mg "law" s_law ["_law_script"] t.law t.fd_law
  b_dict : mg "dict" = none
  b_enumerate : mg "enumerate" = none
  b_isinstance : mg "isinstance" = none
  b_len : mg "len" = none
  b_list : mg "list" = none
  b_max : mg "max" = none
  b_min : mg "min" = none
  b_range : mg "range" = none
  b_sorted : mg "sorted" = none
  b_str : mg "str" = none
  x_NoLine : XTop K mg "NoLine" "NoLine.__init__" s_NoLine_i ["self", "one", "other"] t.NoLine t.NetError t.NoLine_i t.fd_NoLine_i
  na_NoLine_one : NoAttr K t.NoLine "one"
  na_NoLine_other : NoAttr K t.NoLine "other"
  m_NetError : mg "NetError" = some (.ref t.NetError)
  m_NoPlace : mg "NoPlace" = some (.ref t.NoPlace)
  m_OldLine : mg "OldLine" = some (.ref t.OldLine)
  k_NoLine_NetError : PySem.W.kitOne K (.ref t.NoLine) (.ref t.NetError) = some true
  k_NoLine_NoPlace : PySem.W.kitOne K (.ref t.NoLine) (.ref t.NoPlace) = some false
  k_NoLine_OldLine : PySem.W.kitOne K (.ref t.NoLine) (.ref t.OldLine) = some false
theorem sc_NoLine_i : FnScope ["self", "one", "other"] ["self", "one", "other"] (defScope s_NoLine_i) := ⟨rfl, rfl, rfl, by decide +kernel, rfl, by decide +kernel, by decide +kernel⟩
theorem sc_lines_in : FnScope ["net", "lines", "one", "other"] ["net"] (defScope s_lines_in) := ⟨rfl, rfl, rfl, by decide +kernel, rfl, by decide +kernel, by decide +kernel⟩
theorem sc_net_less : FnScope ["net", "lines", "out", "one", "other"] ["net", "lines"] (defScope s_net_less) := ⟨rfl, rfl, rfl, by decide +kernel, rfl, by decide +kernel, by decide +kernel⟩
theorem sc_net_joined : FnScope ["net", "lines"] ["net", "lines"] (defScope s_net_joined) := ⟨rfl, rfl, rfl, by decide +kernel, rfl, by decide +kernel, by decide +kernel⟩
theorem sc_net_of : FnScope ["places", "lines", "net", "place", "one", "other", "many"] ["places", "lines"] (defScope s_net_of) := ⟨rfl, rfl, rfl, by decide +kernel, rfl, by decide +kernel, by decide +kernel⟩
theorem sc_join_line : FnScope ["net", "one", "other", "many", "strength"] ["net", "one", "other", "many"] (defScope s_join_line) := ⟨rfl, rfl, rfl, by decide +kernel, rfl, by decide +kernel, by decide +kernel⟩
theorem sc_has_place : FnScope ["net", "thing"] ["net", "thing"] (defScope s_has_place) := ⟨rfl, rfl, rfl, by decide +kernel, rfl, by decide +kernel, by decide +kernel⟩
theorem sc_has_line : FnScope ["net", "one", "other"] ["net", "one", "other"] (defScope s_has_line) := ⟨rfl, rfl, rfl, by decide +kernel, rfl, by decide +kernel, by decide +kernel⟩
theorem sc_l_cell_at : FnScope ["_law_script", "_law_k"] ["_law_script", "_law_k"] (defScope s_l_cell_at) := ⟨rfl, rfl, rfl, by decide +kernel, rfl, by decide +kernel, by decide +kernel⟩
theorem sc_l_mix : FnScope ["_law_cell", "_law_k", "_law_number"] ["_law_cell", "_law_k"] (defScope s_l_mix) := ⟨rfl, rfl, rfl, by decide +kernel, rfl, by decide +kernel, by decide +kernel⟩
theorem sc_l_names : FnScope ["_law_cell", "_law_many", "_law_letters", "_law_base", "_law_at", "_law_size", "_law_names_here", "_law_k", "_law_name"] ["_law_cell", "_law_many"] (defScope s_l_names) := ⟨rfl, rfl, rfl, by decide +kernel, rfl, by decide +kernel, by decide +kernel⟩
theorem sc_l_net : FnScope ["_law_script", "_law_names_here", "_law_bound", "_law_bits", "_law_sums", "_law_net_here", "_law_name", "_law_i", "_law_j", "_law_draws", "_law_first"] ["_law_script", "_law_names_here", "_law_bound"] (defScope s_l_net) := ⟨rfl, rfl, rfl, by decide +kernel, rfl, by decide +kernel, by decide +kernel⟩
theorem sc_l_copied : FnScope ["_law_net_here", "_law_found", "_law_one"] ["_law_net_here"] (defScope s_l_copied) := ⟨rfl, rfl, rfl, by decide +kernel, rfl, by decide +kernel, by decide +kernel⟩
theorem sc_l_some_lines : FnScope ["_law_net_here", "_law_cell", "_law_there", "_law_one", "_law_names_here", "_law_found", "_law_k", "_law_number"] ["_law_net_here", "_law_cell"] (defScope s_l_some_lines) := ⟨rfl, rfl, rfl, by decide +kernel, rfl, by decide +kernel, by decide +kernel⟩
theorem sc_l_less_due : FnScope ["_law_net_here", "_law_lines", "_law_found", "_law_one", "_law_other"] ["_law_net_here", "_law_lines"] (defScope s_l_less_due) := ⟨rfl, rfl, rfl, by decide +kernel, rfl, by decide +kernel, by decide +kernel⟩
theorem sc_l_less : FnScope ["_law_net_here", "_law_lines", "_law_found", "e"] ["_law_net_here", "_law_lines"] (defScope s_l_less) := ⟨rfl, rfl, rfl, by decide +kernel, rfl, by decide +kernel, by decide +kernel⟩
theorem sc_l_joins : FnScope ["_law_net_here", "_law_cell", "_law_names_here", "_law_found", "_law_k", "_law_number", "_law_one", "_law_other"] ["_law_net_here", "_law_cell"] (defScope s_l_joins) := ⟨rfl, rfl, rfl, by decide +kernel, rfl, by decide +kernel, by decide +kernel⟩
theorem sc_l_joined_due : FnScope ["_law_net_here", "_law_lines", "_law_found", "_law_one", "_law_other", "_law_many"] ["_law_net_here", "_law_lines"] (defScope s_l_joined_due) := ⟨rfl, rfl, rfl, by decide +kernel, rfl, by decide +kernel, by decide +kernel⟩
theorem sc_l_good : FnScope ["_law_net_here", "_law_cell", "_law_kept", "_law_lines", "_law_due", "_law_mine", "_law_found", "_law_one"] ["_law_net_here", "_law_cell"] (defScope s_l_good) := ⟨rfl, rfl, rfl, by decide +kernel, rfl, by decide +kernel, by decide +kernel⟩
theorem sc_law : FnScope ["_law_script", "_law_names_here", "_law_net_here", "_law_k", "_law_cell", "_law_lines", "_law_handed", "_law_one", "_law_found", "_law_due"] ["_law_script"] (defScope s_law) := ⟨rfl, rfl, rfl, by decide +kernel, rfl, by decide +kernel, by decide +kernel⟩
end K05

set_option Elab.async false
set_option linter.all false
set_option maxRecDepth 100000
set_option maxHeartbeats 4000000
namespace K05
open PySem L2 PySem.Spec PyProof.Rows
section
variable {P : Program} {w : World} {K : PySem.W.Frag} {mg : Str → Option Value} {base : Heap} {t : Adr}
/-! ### a cell of the script -/
def sp_cell (K : PySem.W.Frag) : Sp := fun vs H Q _ => ∃ (a : Addr) (ns : List Int) (k : Int), vs = [.ref a, .int k] ∧ 0 ≤ k ∧ SqL K H a (ns.map V.int) ∧ Q (.int (ns.getD k.toNat 0)) H
theorem ok_l_cell_at (T : Txt K mg t) : FnOk P w K mg base CX0 1 t.l_cell_at t.fd_l_cell_at ["_law_script", "_law_k"] (sp_cell K) := by
  refine T.f_l_cell_at.fn.ok sc_l_cell_at (fun vs H Q E h => ?_) (fun cdv A outer s H vs Q E hr h => ?_)
  · obtain ⟨a, ns, k, rfl, _⟩ := h; rfl
  · obtain ⟨a, ns, k0, rfl, h0, hS, q⟩ := h
    obtain ⟨k, rfl⟩ := Int.eq_ofNat_of_zero_le h0
    rw [Int.toNat_natCast] at q
    refine ⟨_, (pss_cons (ps_if (pt_cmpR op_lt (pv 1) (pe_callB call_len (by rfl) T.b_len boot_len' (pa_cons (pv 0) pa_nil)) (nomark _))
        (pss_one (ps_ret (pe_ix ix_list (pv 0) (pv 1) (fun _ _ => rfl))))
        pss_nil)
      (pss_one (ps_ret pe_int))), ?_⟩
    refine ⟨_, rfl, _, rfl, .ref a, ns.length, rfl, .inl ⟨_, hS, by simp⟩, _, _, rfl, rfl, _, rfl, ?_⟩
    refine iteD (fun hk => ?_) (fun hk => ?_)
    · have hk' : k < ns.length := by omega
      refine ⟨_, rfl, _, rfl, a, _, _, .int ns[k], rfl, rfl, hS, atI_nat (by simp [hk']), ?_⟩
      rw [show ns.getD k 0 = ns[k] by simp [hk']] at q
      exact q
    · have hk' : ns.length ≤ k := by omega
      rw [show ns.getD k 0 = 0 by simp [hk']] at q
      exact q
/-! ### mixing -/
def sp_mix : Sp := fun vs H Q _ => ∃ (c k : Int), vs = [.int c, .int k] ∧ 0 ≤ k ∧ k ≤ 1000000000 ∧ Q (.int (mixF c k)) H
theorem ok_l_mix (T : Txt K mg t) : FnOk P w K mg base CX0 1 t.l_mix t.fd_l_mix ["_law_cell", "_law_k"] sp_mix := by
  refine T.f_l_mix.fn.ok sc_l_mix (fun vs H Q E h => ?_) (fun cdv A outer s H vs Q E hr h => ?_)
  · obtain ⟨c, k, rfl, _⟩ := h; rfl
  · obtain ⟨c, k, rfl, h0, hk, q⟩ := h
    have e1 := Int.emod_nonneg c (show (2147483647 : Int) ≠ 0 by decide)
    have e2 := Int.emod_lt_of_pos c (show (0 : Int) < 2147483647 by decide)
    refine ⟨_, (pss_cons (ps_set (i := 2) sc_l_mix.nd rfl (Or.inl rfl) (pe_op op_mod (pe_op op_mul (pe_op op_add (pe_op op_add (pe_op op_mod (pv 0) pe_int) (pe_op op_mul pe_int (pv 1))) pe_int) pe_int) pe_int))
      (pss_cons (ps_set (i := 2) sc_l_mix.nd rfl (Or.inl rfl) (pe_op op_mod (pe_op op_add (pe_op op_mul (pv 2) (pv 2)) (pv 1)) pe_int))
      (pss_one (ps_ret (pe_op op_mod (pe_op op_mul (pv 2) (pv 2)) pe_int))))), ?_⟩
    refine ⟨_, rfl, _, _, rfl, rfl, (by show (0 : Int) < 2147483647; decide), _, rfl, _, _, rfl, rfl, .inl ⟨by decide, by decide⟩, _, _, rfl, rfl, _, _, rfl, rfl, _, _, rfl, rfl, .inr ⟨by decide, by decide⟩, _, _, rfl, rfl, (by show (0 : Int) < 2147483647; decide), ?_⟩
    have f1 := Int.emod_nonneg ((c % 2147483647 + 7919 * k + 1) * 48271) (show (2147483647 : Int) ≠ 0 by decide)
    have f2 := Int.emod_lt_of_pos ((c % 2147483647 + 7919 * k + 1) * 48271) (show (0 : Int) < 2147483647 by decide)
    refine ⟨_, rfl, _, rfl, _, _, rfl, rfl, .inl ⟨by omega, by omega⟩, _, rfl, _, _, rfl, rfl, _, _, rfl, rfl, (by show (0 : Int) < 2147483629; decide), ?_⟩
    have g1 := Int.emod_nonneg ((c % 2147483647 + 7919 * k + 1) * 48271 % 2147483647 * ((c % 2147483647 + 7919 * k + 1) * 48271 % 2147483647) + k) (show (2147483629 : Int) ≠ 0 by decide)
    have g2 := Int.emod_lt_of_pos ((c % 2147483647 + 7919 * k + 1) * 48271 % 2147483647 * ((c % 2147483647 + 7919 * k + 1) * 48271 % 2147483647) + k) (show (0 : Int) < 2147483629 by decide)
    refine ⟨_, rfl, _, rfl, _, _, rfl, rfl, .inl ⟨by omega, by omega⟩, _, _, rfl, rfl, (by show (0 : Int) < 2147483587; decide), ?_⟩
    exact q
def sp_names : Sp := fun vs H Q _ => ∃ (c n : Int), vs = [.int c, .int n] ∧ 0 ≤ n ∧ n ≤ 26 ∧ ∀ (p : Addr) (H' : Hp) (ss : List Str), Same H H' → H p = none → H' p = some (.lst (ss.map V.str)) → ss.length = n.toNat → ss.Nodup → (∀ s ∈ ss, isNm s) → Q (.ref p) H'
theorem ok_l_names (T : Txt K mg t) : FnOk P w K mg base CX0 2 t.l_names t.fd_l_names ["_law_cell", "_law_many"] sp_names := by
  refine T.f_l_names.fn.ok sc_l_names (fun vs H Q E h => ?_) (fun cdv A outer s H vs Q E hr h => ?_)
  · obtain ⟨c, n, rfl, _⟩ := h; rfl
  · obtain ⟨c, n0, rfl, hn0, hn, q⟩ := h
    obtain ⟨n, rfl⟩ := Int.eq_ofNat_of_zero_le hn0
    refine ⟨_, (pss_cons (ps_set (i := 2) sc_l_names.nd rfl (Or.inr rfl) pe_str)
      (pss_cons (ps_set (i := 3) sc_l_names.nd rfl (Or.inl rfl) (pe_bm PySem.F.plainAttrs_str PySem.F.slot_str_join PySem.F.type_str_join mt_join pe_str (pa_cons (pe_comp ["_law_j"] [2, 0] rfl (pi_range1 rfl T.b_range (pa_cons pe_int pa_nil)) (fun _ _ _ _ _ => (pg_name (i := 0) (show (["_law_j", "_law_letters", "_law_cell"] : List Str).Nodup by decide +kernel) rfl (Or.inl rfl))) (fun _ _ _ _ _ => pif_nil) (fun _ _ _ _ _ => (pe_ix ix_str (pv 1) (pe_op op_mod (pe_call (ok_l_mix T) (hr.mono (by decide)) rfl T.f_l_mix.mg T.f_l_mix.kp T.f_l_mix.bd .nil pass0 (pa_cons (pv 2) (pa_cons (pv 0) pa_nil))) pe_int) (fun _ _ => rfl))) ⟨⟨_, rfl, rfl, .inl rfl⟩, ⟨⟨_, rfl, rfl, .inl rfl⟩, trivial⟩⟩ (hfr := by show ∀ y ∈ (_ : List (Str × NameKind)), y.2 = NameKind.free → (defScope s_l_names).names.lookup y.1 = some NameKind.cell ∨ (defScope s_l_names).names.lookup y.1 = some NameKind.free; decide +kernel)) pa_nil)))
      (pss_cons (ps_set (i := 4) sc_l_names.nd rfl (Or.inl rfl) (pe_op op_mod (pe_call (ok_l_mix T) (hr.mono (by decide)) rfl T.f_l_mix.mg T.f_l_mix.kp T.f_l_mix.bd .nil pass0 (pa_cons (pv 0) (pa_cons pe_int pa_nil))) pe_int))
      (pss_cons (ps_set (i := 5) sc_l_names.nd rfl (Or.inl rfl) (pe_op op_add pe_int (pe_op op_mod (pv 0) pe_int)))
      (pss_cons (ps_set (i := 6) sc_l_names.nd rfl (Or.inl rfl) (pe_lst pa_nil))
      (pss_cons (ps_for PassesOwn.never rfl (pi_range1 rfl T.b_range (pa_cons (pv 1) pa_nil)) (pg_name (i := 7) sc_l_names.nd rfl (Or.inl rfl))
        (pss_cons (ps_set (i := 8) sc_l_names.nd rfl (Or.inl rfl) (pe_op op_add_str (pe_op op_add_str (pe_slice sl_str (pv 3) po_none (po_some (pv 4))) (pe_ix ix_str (pv 2) (pe_op op_mod (pe_op op_add (pe_call (ok_l_mix T) (hr.mono (by decide)) rfl T.f_l_mix.mg T.f_l_mix.kp T.f_l_mix.bd .nil pass0 (pa_cons (pv 0) (pa_cons pe_int pa_nil))) (pv 7)) pe_int) (fun _ _ => rfl))) (pe_slice sl_str (pv 3) (po_some (pv 4)) po_none)))
      (pss_one (ps_expr (pe_bm PySem.F.plainAttrs_list PySem.F.slot_list_append PySem.F.type_list_append mt_append (pv 6) (pa_cons (pe_slice sl_str (pv 8) po_none (po_some (pe_callB (call_max2 rfl) (by rfl) T.b_max boot_max' (pa_cons (pe_op op_add (pv 4) pe_int) (pa_cons (pe_ix ix_list (pe_lst (pa_cons (pv 5) (pa_cons (pe_op op_add pe_int (pe_op op_mod (pe_op op_add (pv 5) (pe_op op_mul pe_int (pv 7))) pe_int)) pa_nil))) (pe_op op_mod (pe_op op_fdiv (pv 0) pe_int) pe_int) (fun _ _ => rfl)) pa_nil))))) pa_nil))))))
      (pss_one (ps_ret (pv 6))))))))), ?_⟩
    refine ⟨rfl, 7, rfl, by decide, by decide, ?_⟩
    refine comp_inv 7 (fun i ys H' => i ≤ 7 ∧ H' = H ∧ ∃ ls : List Nat, ys = ls.map (fun c => V.str ⟨#[c]⟩) ∧ ls.length = i ∧ ∀ c ∈ ls, 97 ≤ c ∧ c ≤ 122) ⟨by decide, rfl, [], rfl, rfl, fun _ h => absurd h (by simp)⟩ (fun i ys H' p => ?_) (fun i ys H' hi p => ?_) (fun ys H' p => ?_)
    · obtain ⟨h7, _, ls, rfl, hl, _⟩ := p
      rw [List.length_map, hl]
      exact small1000 (by omega)
    · obtain ⟨_, rfl, ls, rfl, hl, hc⟩ := p
      refine ⟨hi, ?_⟩
      rintro v H2 ⟨rfl, rfl⟩
      simp only [gName, tYes, ↓reduceIte, Int.zero_add]
      refine ⟨_, rfl, _, rfl, _, rfl, c, i, rfl, by omega, by omega, _, _, rfl, rfl, (by show (0 : Int) < 26; decide), _, _, _, rfl, rfl, (by decide +kernel), letter_at (Int.emod_nonneg _ (by decide)) (Int.emod_lt_of_pos _ (by decide)), nxC hi ⟨hi, rfl, ls ++ [97 + (mixF c i % 26).toNat], ?_, ?_, ?_⟩⟩
      · rw [List.map_append]; rfl
      · simp [hl]
      · intro d hd
        rcases List.mem_append.mp hd with q | q
        · exact hc d q
        · rw [List.mem_singleton.mp q]
          have a1 := Int.emod_nonneg (mixF c i) (show (26 : Int) ≠ 0 by decide)
          have a2 := Int.emod_lt_of_pos (mixF c i) (show (0 : Int) < 26 by decide)
          omega
    · obtain ⟨_, rfl, ls, rfl, hl, hc⟩ := p
      refine ⟨Nat.le_refl _, fun p0 hp0 => ⟨_, p0, ls.map (fun c => ⟨#[c]⟩), rfl, rfl, .inl (.inl ?_), ?_, ?_⟩⟩
      · rw [upd_same, List.map_map]; rfl
      · have e1 : (ls.map (fun c => (⟨#[c]⟩ : Str))).map (·.length) = List.replicate 7 1 := by
          rw [List.map_map, List.eq_replicate_iff]
          refine ⟨by rw [List.length_map, hl], fun b hb => ?_⟩
          obtain ⟨d, _, rfl⟩ := List.mem_map.mp hb
          rfl
        rw [e1, List.length_map, hl]
        decide +kernel
      · have hB := join_signs ls
        generalize joinS "" (ls.map fun c => ⟨#[c]⟩) = B at hB
        have hb7 : (cs B).length = 7 := by rw [hB, hl]
        have hbl : B.length = 7 := by rw [← cs_len]; exact hb7
        have hbs : B.length ≤ sizeLine := by rw [hbl]; decide
        have hbc : ∀ d ∈ cs B, 97 ≤ d ∧ d ≤ 122 := by rw [hB]; exact hc
        refine ⟨_, rfl, c, 9, rfl, by decide, by decide, _, _, rfl, rfl, (by show (0 : Int) < 6; decide), ?_⟩
        have a1 := Int.emod_nonneg (mixF c 9) (show (6 : Int) ≠ 0 by decide)
        have a2 := Int.emod_lt_of_pos (mixF c 9) (show (0 : Int) < 6 by decide)
        refine ⟨_, rfl, _, _, rfl, rfl, (by show (0 : Int) < 6; decide), _, _, rfl, rfl, ?_⟩
        have b1 := Int.emod_nonneg c (show (6 : Int) ≠ 0 by decide)
        have b2 := Int.emod_lt_of_pos c (show (0 : Int) < 6 by decide)
        refine ⟨(by decide), fun p hp => ?_⟩
        have hS1 := Same.updN (o := .lst (ls.map fun c => V.str ⟨#[c]⟩)) hp0
        refine ⟨_, rfl, (n : Int), rfl, by omega, by omega, ?_⟩
        refine for_range (n := (n : Int).toNat) (fun i σ H2 => ∃ x7 x8 ss, σ = [some (.int c), some (.int n), some (.str lettersS), some (.str B), some (.int (mixF c 9 % 6)), some (.int (2 + c % 6)), some (.ref p), x7, x8] ∧ Same H' H2 ∧ H2 p = some (.lst (ss.map V.str)) ∧ Nms (mixF c 9 % 6).toNat (mixF c 8) i ss) ?_ (fun i σ H2 hi pv => ?_) (fun σ H2 pv => ?_)
        · exact ⟨none, none, [], rfl, hS1.trans (Same.updN hp), upd_same, Nms.nil _ _⟩
        · obtain ⟨x7, x8, ss, rfl, hS, hP, hN⟩ := pv
          have hi' : i < n := by omega
          simp only [Int.zero_add]
          have m1 := Int.emod_nonneg (mixF c 8 + i) (show (26 : Int) ≠ 0 by decide)
          have m2 := Int.emod_lt_of_pos (mixF c 8 + i) (show (0 : Int) < 26 by decide)
          refine ⟨_, rfl, _, rfl, _, rfl, _, rfl, hbs, _, rfl, _, rfl, c, 8, rfl, by decide, by decide, _, rfl, _, _, rfl, rfl, _, _, rfl, rfl, (by show (0 : Int) < 26; decide), _, _, _, rfl, rfl, (by decide +kernel), letter_at m1 m2, _, _, rfl, rfl, ?_, ?_⟩
          · have := cutS_len B none (some (mixF c 9 % 6))
            show _ + 1 ≤ sizeLine
            exact sz (by omega)
          · refine ⟨_, rfl, _, rfl, _, rfl, _, rfl, hbs, _, _, rfl, rfl, ?_, ?_⟩
            · have h1 := cutS_len B none (some (mixF c 9 % 6))
              have h2 := cutS_len B (some (mixF c 9 % 6)) none
              rw [str_len]
              show _ + 1 + _ ≤ sizeLine
              exact sz (by omega)
            · generalize hx : (cutS B none (some (mixF c 9 % 6)) ++ ⟨#[97 + ((mixF c 8 + i) % 26).toNat]⟩ ++ cutS B (some (mixF c 9 % 6)) none : Str) = X
              have hX : cs X = (cs B).take (mixF c 9 % 6).toNat ++ [97 + ((mixF c 8 + i) % 26).toNat] ++ (cs B).drop (mixF c 9 % 6).toNat := by
                rw [← hx, cs_append, cs_append, cutS_lo _ a1, cutS_hi _ a1]
              have hXl : X.length ≤ sizeLine := by rw [← cs_len, hX]; simp only [List.length_append, List.length_take, List.length_drop, hb7, List.length_singleton]; exact sz (by omega)
              obtain ⟨v, ⟨v1, v2⟩, hv⟩ := pick2b (P := fun v => 2 ≤ v ∧ v ≤ 8) (x := 2 + c % 6) (y := 2 + (2 + c % 6 + 5 * i) % 7) (c := c / 6) (by omega) (by omega)
              refine ⟨_, rfl, .inl ⟨rfl, _, SqL.of hP⟩, _, rfl, _, rfl, _, _, rfl, rfl, _, rfl, _, rfl, _, rfl, _, _, rfl, rfl, .inl ⟨by decide, by decide⟩, _, _, rfl, rfl, _, _, rfl, rfl, (by show (0 : Int) < 7; decide), _, _, rfl, rfl, (by show 2 ≤ sizeLine; decide), fun q1 hq1 => ?_⟩
              refine ⟨_, rfl, _, _, rfl, rfl, ⟨by decide, by decide⟩, _, _, rfl, rfl, (by show (0 : Int) < 2; decide), _, _, _, _, rfl, rfl, SqL.of upd_same, hv, _, _, rfl, _, rfl, _, rfl, hXl, ?_⟩
              have n1 : (mixF c 9 % 6) + 1 ≤ (if v > (mixF c 9 % 6) + 1 then v else (mixF c 9 % 6) + 1) := by split <;> omega
              have n2 : (if v > (mixF c 9 % 6) + 1 then v else (mixF c 9 % 6) + 1) ≤ 8 := by split <;> omega
              have pq : p ≠ q1 := ne_of_none hP hq1
              obtain ⟨g1, g2⟩ := nm_made (base := B) (at' := (mixF c 9 % 6).toNat) (n := (if v > (mixF c 9 % 6) + 1 then v else (mixF c 9 % 6) + 1).toNat) (c := 97 + ((mixF c 8 + i) % 26).toNat) (x := cutS X none (some (if v > (mixF c 9 % 6) + 1 then v else (mixF c 9 % 6) + 1))) hb7 hbc (by omega) (by omega) (by omega) (by omega) (by rw [cutS_lo _ (by omega), hX])
              refine ⟨p, _, _, rfl, rfl, (by rw [upd_ne pq]; exact hP), ?_, _, _, ss ++ [cutS X none (some (if v > (mixF c 9 % 6) + 1 then v else (mixF c 9 % 6) + 1))], rfl, ?_, ?_, hN.snoc (by omega) g1 g2⟩
              · rw [List.length_map, hN.1]; exact szl (by omega)
              · exact (hS.trans (Same.updN hq1)).upd (hS1.free hp)
              · rw [upd_same, List.map_append]; rfl
        · obtain ⟨x7, x8, ss, rfl, hS, hP, hN⟩ := pv
          refine ⟨_, rfl, q p H2 ss hS (hS1.free hp) hP ?_ hN.2.1 hN.2.2.1⟩
          rw [hN.1]
def sp_net (K : PySem.W.Frag) : Sp := fun vs H Q _ => ∃ (a b : Addr) (ns : List Int) (ks : List Str) (B : Int), vs = [.ref a, .ref b, .int B] ∧ SqL K H a (ns.map V.int) ∧ SqL K H b (ks.map V.str) ∧ ks.Nodup ∧ ks.length ≤ 12 ∧ 0 < B ∧ B < 1073741824 ∧
  ∀ p H', NS H p ks B H' → Q (.ref p) H'
theorem ok_l_net (T : Txt K mg t) : FnOk P w K mg base CX0 2 t.l_net t.fd_l_net ["_law_script", "_law_names_here", "_law_bound"] (sp_net K) := by
  refine T.f_l_net.fn.ok sc_l_net (fun vs H Q E h => ?_) (fun cdv A outer s H vs Q E hr h => ?_)
  · obtain ⟨a, b, ns, ks, B, rfl, _⟩ := h; rfl
  · obtain ⟨a, b, ns, ks, B, rfl, hA, hK, hnd, hlen, hB0, hB1, q⟩ := h
    have hu := hu_of hr
    refine ⟨_, (pss_cons (ps_set (i := 3) sc_l_net.nd rfl (Or.inl rfl) (pe_call (ok_l_cell_at T) (hr.mono (by decide)) rfl T.f_l_cell_at.mg T.f_l_cell_at.kp T.f_l_cell_at.bd .nil pass0 (pa_cons (pv 0) (pa_cons pe_int pa_nil))))
      (pss_cons (ps_set (i := 4) sc_l_net.nd rfl (Or.inl rfl) (pe_call (ok_l_cell_at T) (hr.mono (by decide)) rfl T.f_l_cell_at.mg T.f_l_cell_at.kp T.f_l_cell_at.bd .nil pass0 (pa_cons (pv 0) (pa_cons pe_int pa_nil))))
      (pss_cons (ps_set (i := 5) sc_l_net.nd rfl (Or.inl rfl) pe_dnewK)
      (pss_cons (ps_for PassesOwn.never rfl (pi_list (pv 1)) (pg_name (i := 6) sc_l_net.nd rfl (Or.inl rfl))
        (pss_one (ps_dput hu (pv 5) (pv 6) pe_dnewK rfl)))
      (pss_cons (ps_for PassesOwn.never rfl (pi_range1 rfl T.b_range (pa_cons (pe_callB call_len (by rfl) T.b_len boot_len' (pa_cons (pv 1) pa_nil)) pa_nil)) (pg_name (i := 7) sc_l_net.nd rfl (Or.inl rfl))
        (pss_one (ps_for PassesOwn.never rfl (pi_range2 rfl T.b_range (pa_cons (pe_op op_add (pv 7) pe_int) (pa_cons (pe_callB call_len (by rfl) T.b_len boot_len' (pa_cons (pv 1) pa_nil)) pa_nil))) (pg_name (i := 8) sc_l_net.nd rfl (Or.inl rfl))
        (pss_cons (ps_set (i := 9) sc_l_net.nd rfl (Or.inl rfl) (pe_lst (pa_cons (pv 3) (pa_cons (pv 4) pa_nil))))
      (pss_cons (ps_if (pt_cmpR op_eq (pe_op op_mod (pe_op op_fdiv (pe_call (ok_l_cell_at T) (hr.mono (by decide)) rfl T.f_l_cell_at.mg T.f_l_cell_at.kp T.f_l_cell_at.bd .nil pass0 (pa_cons (pv 0) (pa_cons pe_int pa_nil))) pe_int) pe_int) pe_int (nomark _))
        (pss_cons (ps_set (i := 10) sc_l_net.nd rfl (Or.inl rfl) (pe_call (ok_l_mix T) (hr.mono (by decide)) rfl T.f_l_mix.mg T.f_l_mix.kp T.f_l_mix.bd .nil pass0 (pa_cons (pe_call (ok_l_cell_at T) (hr.mono (by decide)) rfl T.f_l_cell_at.mg T.f_l_cell_at.kp T.f_l_cell_at.bd .nil pass0 (pa_cons (pv 0) (pa_cons pe_int pa_nil))) (pa_cons (pe_op op_add (pe_op op_mul pe_int (pv 7)) (pv 8)) pa_nil))))
      (pss_one (ps_set (i := 9) sc_l_net.nd rfl (Or.inl rfl) (pe_lst (pa_cons (pe_op op_fdiv (pe_op op_mod (pe_op op_fdiv (pv 10) pe_int) pe_int) (pe_op op_add pe_int (pe_op op_mod (pe_call (ok_l_cell_at T) (hr.mono (by decide)) rfl T.f_l_cell_at.mg T.f_l_cell_at.kp T.f_l_cell_at.bd .nil pass0 (pa_cons (pv 0) (pa_cons pe_int pa_nil))) pe_int))) (pa_cons (pe_op op_mul (pv 10) (pv 10)) pa_nil))))))
        pss_nil)
      (pss_cons (ps_if (pt_cmpR op_eq (pe_op op_mod (pe_ix ix_list (pv 9) pe_int (fun _ _ => rfl)) pe_int) pe_int (nomark _))
        (pss_cons (ps_dput hu (pe_dget hu (pv 5) (pe_ix ix_list (pv 1) (pv 7) (fun _ _ => rfl)) (fun _ _ => rfl)) (pe_ix ix_list (pv 1) (pv 8) (fun _ _ => rfl)) (pe_op op_add pe_int (pe_op op_mod (pe_ix ix_list (pv 9) pe_int (fun _ _ => rfl)) (pv 2))) rfl)
      (pss_one (ps_dput hu (pe_dget hu (pv 5) (pe_ix ix_list (pv 1) (pv 8) (fun _ _ => rfl)) (fun _ _ => rfl)) (pe_ix ix_list (pv 1) (pv 7) (fun _ _ => rfl)) (pe_op op_add pe_int (pe_op op_mod (pe_ix ix_list (pv 9) pe_int (fun _ _ => rfl)) (pv 2))) rfl)))
        pss_nil)
      (pss_cons (ps_set (i := 3) sc_l_net.nd rfl (Or.inl rfl) (pe_op op_fdiv (pv 3) pe_int))
      (pss_one (ps_set (i := 4) sc_l_net.nd rfl (Or.inl rfl) (pe_op op_fdiv (pv 4) (pv 2)))))))))))
      (pss_one (ps_ret (pv 5)))))))), ?_⟩
    refine ⟨_, rfl, a, ns, 2, rfl, by decide, hA, _, rfl, a, ns, 3, rfl, by decide, hA, fun p hp => ?_⟩
    generalize ns.getD (2 : Int).toNat 0 = bits0
    generalize ns.getD (3 : Int).toNat 0 = sums0
    refine ⟨_, rfl, b, rfl, ⟨_, (Same.updN hp).seq hK⟩, for_list (xs := ks.map V.str) (fun i σ H2 => ∃ x6 bs, σ = [some (.ref a), some (.ref b), some (.int B), some (.int bits0), some (.int sums0), some (.ref p), x6, none, none, none, none] ∧ Same H H2 ∧ NetAt H2 p bs (fun _ => []) ∧ bs.map (·.1) = ks.take i ∧ New H p bs) ?_ (fun i σ H2 hi pv => ?_) (fun i x σ H2 hx pv => ?_) (fun σ H2 pv => ?_)⟩
    · refine ⟨none, [], rfl, Same.updN hp, ⟨upd_same, fun _ h => absurd h (by simp), List.nodup_nil, by simp⟩, rfl, hp, fun _ h => absurd h (by simp)⟩
    · obtain ⟨x6, bs, rfl, hS, _⟩ := pv
      exact hS.seq hK
    · obtain ⟨x6, bs, rfl, hS, hN, hbs, hnew⟩ := pv
      rw [List.getElem?_map] at hx
      cases hk : ks[i]? with
      | none => rw [hk] at hx; cases hx
      | some k =>
      rw [hk] at hx
      cases hx
      have hfresh : k ∉ bs.map (·.1) := by
        rw [hbs]
        intro hm
        obtain ⟨j, hj⟩ := List.getElem?_of_mem hm
        rw [List.getElem?_take] at hj
        split at hj
        · rename_i hji
          have := List.pairwise_iff_getElem.mp hnd
          obtain ⟨h1, e1⟩ := List.getElem?_eq_some_iff.mp hj
          obtain ⟨h2, e2⟩ := List.getElem?_eq_some_iff.mp hk
          exact this j i h1 h2 hji (e1.trans e2.symm)
        · cases hj
      have hbl : bs.length ≤ 12 := by
        have := congrArg List.length hbs
        rw [List.length_map, List.length_take] at this
        omega
      intro r hr'
      obtain ⟨d1, d2⟩ := hN.add (x := k) hfresh hr' (szl (by omega)) rfl
      refine ⟨_, rfl, _, rfl, p, _, rfl, d1, _, bs ++ [(k, r)], rfl, ?_, d2, ?_, hnew.1, fun z hz => ?_⟩
      · exact (hS.trans (Same.updN hr')).upd hp
      · rw [List.map_append, hbs, List.take_add_one, hk]; rfl
      · rcases List.mem_append.mp hz with c | c
        · exact hnew.2 z c
        · rw [List.mem_singleton.mp c]; exact hS.free hr'
    · obtain ⟨x6, bs, rfl, hS, hN, hbs, hnew⟩ := pv
      rw [List.length_map, List.take_of_length_le (Nat.le_refl _)] at hbs
      have hNS : NS H p ks B H2 := ⟨bs, _, hS, hN, hbs, hnew, GNet.nil ks B⟩
      clear hbs hnew hN
      refine ⟨_, rfl, _, ks.length, rfl, .inl ⟨_, hS.seq hK, by simp⟩, (ks.length : Int), rfl, by omega, by omega, ?_⟩
      clear hS
      refine for_range (n := (ks.length : Int).toNat) (fun i σ H3 => ∃ x6 x7 x8 x9 x10 bits sums, σ = [some (.ref a), some (.ref b), some (.int B), some (.int bits), some (.int sums), some (.ref p), x6, x7, x8, x9, x10] ∧ NS H p ks B H3) ⟨_, _, _, _, _, _, _, rfl, hNS⟩ (fun i σ H3 hi pv => ?_) (fun σ H3 pv => ?_)
      · obtain ⟨x6, x7, x8, x9, x10, bits, sums, rfl, hNS⟩ := pv
        have hi' : i < ks.length := by omega
        simp only [Int.zero_add]
        obtain ⟨_, _, hS, _⟩ := id hNS
        refine ⟨_, rfl, _, _, rfl, rfl, _, rfl, _, ks.length, rfl, .inl ⟨_, hS.seq hK, by simp⟩, _, _, rfl, ⟨by omega, by omega, by omega, by omega⟩, ?_⟩
        clear hS
        refine for_range (n := ((ks.length : Int) - ((i : Int) + 1)).toNat) (fun j σ H3 => ∃ x8 x9 x10 bits sums, σ = [some (.ref a), some (.ref b), some (.int B), some (.int bits), some (.int sums), some (.ref p), x6, some (.int i), x8, x9, x10] ∧ NS H p ks B H3) ⟨_, _, _, _, _, rfl, hNS⟩ (fun j σ H3 hj pv => ?_) (fun σ H3 pv => ?_)
        · obtain ⟨x8, x9, x10, bits, sums, rfl, hNS⟩ := pv
          obtain ⟨bs, f, hS, hN, hbs, hnew, hg⟩ := hNS
          generalize hjj : (i : Int) + 1 + (j : Int) = jj
          have hj1 : (i : Int) < jj := by omega
          have hj2 : jj < ks.length := by omega
          refine ⟨_, rfl, _, rfl, (by show 2 ≤ sizeLine; decide), fun q1 hq1 => ?_⟩
          have S1 := hS.trans (Same.updN (o := .lst [.int bits, .int sums]) hq1)
          refine ⟨_, rfl, a, ns, 0, rfl, by decide, S1.seq hA, _, _, rfl, rfl, ⟨by decide, by decide⟩, _, _, rfl, rfl, (by show (0 : Int) < 2; decide), rfl, _, rfl, ?_⟩
          refine ifJ (R := fun σ H4 => ∃ q d0 d1 x10, σ = [some (.ref a), some (.ref b), some (.int B), some (.int bits), some (.int sums), some (.ref p), x6, some (.int i), some (.int jj), some (.ref q), x10] ∧ Same H3 H4 ∧ H4 q = some (.lst [.int d0, .int d1])) (fun σ H4 hR => ?_) (fun _ hR => ?_) (fun _ => ⟨q1, bits, sums, x10, rfl, Same.updN hq1, upd_same⟩)
          · obtain ⟨q2, d0, d1, x10', rfl, S2, hq2⟩ := hR
            have S3 := hS.trans S2
            have hN2 := hN.same S2
            refine ⟨_, rfl, _, _, _, _, rfl, rfl, SqL.of hq2, atI0, _, _, rfl, rfl, (by show (0 : Int) < 2; decide), rfl, _, rfl, ?_⟩
            refine ifJ (R := fun σ H5 => σ = [some (.ref a), some (.ref b), some (.int B), some (.int bits), some (.int sums), some (.ref p), x6, some (.int i), some (.int jj), some (.ref q2), x10'] ∧ NS H p ks B H5) (fun σ H5 hR => ?_) (fun _ hR => ?_) (fun _ => ⟨rfl, bs, f, S3, hN2, hbs, hnew, hg⟩)
            · obtain ⟨rfl, hNS⟩ := hR
              exact ⟨_, rfl, _, _, rfl, rfl, ⟨by decide, by decide⟩, _, rfl, _, rfl, _, _, rfl, rfl, ⟨hB0, hB1⟩, _, _, _, _, _, rfl, hNS⟩
            · obtain ⟨x, hx1, hx2, hx3⟩ := atI_ix (g := V.str) (l := ks) (i := (i : Int)) (by omega) (by omega)
              obtain ⟨y, hy1, hy2, hy3⟩ := atI_ix (g := V.str) (l := ks) (i := jj) (by omega) hj2
              have hxy : x ≠ y := by
                intro e
                obtain ⟨h1, e1⟩ := List.getElem?_eq_some_iff.mp hx2
                obtain ⟨h2, e2⟩ := List.getElem?_eq_some_iff.mp hy2
                exact List.pairwise_iff_getElem.mp hnd _ _ h1 h2 (by omega) (by rw [e1, e2, e])
              have hK2 := S3.seq hK
              obtain ⟨b1, hb1⟩ := addrOf_some (bs := bs) (x := x) (by rw [hbs]; exact hx1)
              obtain ⟨b2, hb2⟩ := addrOf_some (bs := bs) (x := y) (by rw [hbs]; exact hy1)
              have v1 := Int.emod_nonneg d1 (show B ≠ 0 by omega)
              have v2 := Int.emod_lt_of_pos d1 hB0
              refine ⟨_, rfl, _, _, _, _, rfl, rfl, SqL.of hq2, atI1, _, rfl, _, _, rfl, rfl, hB0, _, _, rfl, rfl, _, rfl, _, rfl, _, rfl, _, _, _, _, rfl, rfl, hK2, hx3, p, _, rfl, hN2.r.dget hb1, _, rfl, _, rfl, _, _, _, _, rfl, rfl, hK2, hy3, ?_⟩
              obtain ⟨p1, p2⟩ := hN2.put hb1 (1 + d1 % B) y (row_len hg hx1 (by omega))
              refine ⟨b1, _, rfl, p1, ?_⟩
              have S4 := Same.netput (o := .dK (encI (put (f x) y (1 + d1 % B)))) S3 hnew hb1
              have hq3 : (upd H4 b1 (.dK (encI (put (f x) y (1 + d1 % B))))) q2 = some (.lst [.int d0, .int d1]) := by
                rw [upd_ne (ne_of hq2 (hN2.inn _ (addrOf_mem hb1)) (by intro z; cases z))]; exact hq2
              have hK3 := S4.seq hK
              refine ⟨_, rfl, _, _, _, _, rfl, rfl, SqL.of hq3, atI1, _, rfl, _, _, rfl, rfl, hB0, _, _, rfl, rfl, _, rfl, _, rfl, _, rfl, _, _, _, _, rfl, rfl, hK3, hy3, p, _, rfl, p2.r.dget hb2, _, rfl, _, rfl, _, _, _, _, rfl, rfl, hK3, hx3, ?_⟩
              have hl2 : (putR f x y (1 + d1 % B) y).length < sizeLine := by rw [putR_ne (Ne.symm hxy)]; exact row_len hg hy1 (by omega)
              obtain ⟨p3, p4⟩ := p2.put hb2 (1 + d1 % B) x hl2
              refine ⟨b2, _, rfl, p3, hR _ _ ⟨rfl, bs, _, Same.netput S4 hnew hb2, p4, hbs, hnew, hg.put hx1 hy1 hxy (by omega) (by omega)⟩⟩
          · refine ⟨_, rfl, a, ns, 2, rfl, by decide, S1.seq hA, _, rfl, _, _, rfl, rfl, .inl ⟨by decide, by decide⟩, _, rfl, _, _, rfl, rfl, _, _, rfl, by omega, by omega, ?_⟩
            generalize ns.getD (2 : Int).toNat 0 = cc
            have f1 := mixF_lo cc (20 * i + jj)
            have f2 := mixF_hi cc (20 * i + jj)
            generalize mixF cc (20 * i + jj) = fi at f1 f2 ⊢
            have g1 := Int.emod_nonneg cc (show (3 : Int) ≠ 0 by decide)
            have g2 := Int.emod_lt_of_pos cc (show (0 : Int) < 3 by decide)
            refine ⟨_, rfl, _, _, rfl, rfl, ⟨by decide, by decide⟩, _, _, rfl, rfl, (by show (0 : Int) < 4; decide), _, rfl, a, ns, 2, rfl, by decide, S1.seq hA, _, _, rfl, rfl, (by show (0 : Int) < 3; decide), _, _, rfl, rfl, ?_⟩
            exact ⟨_, _, rfl, rfl, ⟨by omega, by omega⟩, _, rfl, _, rfl, _, _, rfl, rfl, .inl ⟨by omega, by omega⟩, (by show 2 ≤ sizeLine; decide), fun q2 hq2 => hR _ _ ⟨q2, _, _, _, rfl, (Same.updN hq1).trans (Same.updN hq2), upd_same⟩⟩
        · obtain ⟨x8, x9, x10, bits, sums, rfl, hNS⟩ := pv
          exact ⟨_, _, _, _, _, _, _, rfl, hNS⟩
      · obtain ⟨x6, x7, x8, x9, x10, bits, sums, rfl, hNS⟩ := pv
        exact ⟨_, rfl, q p H3 hNS⟩
end
end K05

set_option Elab.async false
set_option linter.all false
set_option maxRecDepth 100000
set_option maxHeartbeats 4000000
namespace K05
open PySem L2 PySem.Spec PyProof.Rows
section
variable {P : Program} {w : World} {K : PySem.W.Frag} {mg : Str → Option Value} {base : Heap} {t : Adr}
def sp_has (K : PySem.W.Frag) : Sp := fun vs H Q _ => ∃ a v kvs d, vs = [.ref a, v] ∧ Rd H a (.dK kvs) ∧ Rep K H v d ∧ Q (.bl (hasD kvs d)) H
theorem ok_has_place (T : Txt K mg t) : FnOk P w K mg base CX0 1 t.has_place t.fd_has_place ["net", "thing"] (sp_has K) := by
  refine T.f_has_place.fn.ok sc_has_place (fun vs H Q E h => ?_) (fun cdv A outer s H vs Q E hr h => ?_)
  · obtain ⟨a, v, kvs, d, rfl, _⟩ := h; rfl
  · obtain ⟨a, v, kvs, d, rfl, hA, hd, q⟩ := h
    have hu := hu_of hr
    refine ⟨_, (pss_one (ps_ret (pe_and (pe_callB call_isi (by rfl) T.b_isinstance boot_isinstance' (pa_cons (pv 1) (pa_cons (pe_bltn (v := .ty "str") rfl T.b_str boot_ty_str rfl) pa_nil))) (pe_one (pe_cmp (pc_din hu (pv 1) (pv 0))))))), ?_⟩
    refine ⟨_, rfl, _, d, "str", rfl, hd, rfl, _, rfl, ?_⟩
    rw [isiB_str]
    cases d with
    | str x =>
      cases hd
      exact iteT ⟨_, rfl, _, rfl, a, _, rfl, .inl ⟨kvs, Sum.inr x, hA, rfl, rfl⟩, q⟩
    | _ => exact iteF q
def sp_join : Sp := fun vs H Q _ => ∃ (a : Addr) (bs : Outer) (g : Str → L2.Row) (x y : Str) (b1 b2 : Addr) (m : Int), vs = [.ref a, .str x, .str y, .int m] ∧ NetAt H a bs g ∧ addrOf bs x = some b1 ∧ addrOf bs y = some b2 ∧ x ≠ y ∧ (g x).length < sizeLine ∧ (g y).length < sizeLine ∧
  ∀ H', NetAt H' a bs (putB g x y ((look (g x) y).getD 0 + m)) → (∀ b, b ≠ b1 → b ≠ b2 → H' b = H b) → Q .non H'
theorem ok_join_line (T : Txt K mg t) : FnOk P w K mg base CX0 1 t.join_line t.fd_join_line ["net", "one", "other", "many"] sp_join := by
  refine T.f_join_line.fn.ok sc_join_line (fun vs H Q E h => ?_) (fun cdv A outer s H vs Q E hr h => ?_)
  · obtain ⟨a, bs, g, x, y, b1, b2, m, rfl, _⟩ := h; rfl
  · obtain ⟨a, bs, g, x, y, b1, b2, m, rfl, hN, hb1, hb2, hne, hl1, hl2, q⟩ := h
    have hu := hu_of hr
    refine ⟨_, (pss_cons (ps_set (i := 4) sc_join_line.nd rfl (Or.inl rfl) (pe_op op_add (pe_dget2 hu (pe_dget hu (pv 0) (pv 1) (fun _ _ => rfl)) (pv 2) pe_int ⟨rfl, rfl, rfl, rfl⟩) (pv 3)))
      (pss_cons (ps_dput hu (pe_dget hu (pv 0) (pv 1) (fun _ _ => rfl)) (pv 2) (pv 4) rfl)
      (pss_one (ps_dput hu (pe_dget hu (pv 0) (pv 2) (fun _ _ => rfl)) (pv 1) (pv 4) rfl)))), ?_⟩
    refine ⟨_, rfl, _, rfl, a, _, rfl, hN.r.dget hb1, b1, rfl, .inl ⟨_, hN.r.inn _ (addrOf_mem hb1)⟩, _, rfl, _, hN.r.rget hb1, _, rfl, _, _, optget _, rfl, ?_⟩
    obtain ⟨p1, p2⟩ := hN.put hb1 ((look (g x) y).getD 0 + m) y hl1
    refine ⟨_, rfl, _, rfl, _, rfl, a, _, rfl, hN.r.dget hb1, _, rfl, b1, _, rfl, p1, ?_⟩
    obtain ⟨p3, p4⟩ := p2.put hb2 ((look (g x) y).getD 0 + m) x (by rw [putR_ne (Ne.symm hne)]; exact hl2)
    refine ⟨_, rfl, _, rfl, _, rfl, a, _, rfl, p2.r.dget hb2, _, rfl, b2, _, rfl, p3, q _ p4 (fun b h1 h2 => ?_)⟩
    rw [upd_ne h2, upd_ne h1]
/-! ### the lines of a net, as the program tells them -/
def sp_linesin (K : PySem.W.Frag) : Sp := fun vs H Q _ => ∃ (a : Addr) (bs : Outer) (f : Str → L2.Row), vs = [.ref a] ∧ NetR H a bs f ∧ RowsIn (bs.map (·.1)) f ∧ bs.length ≤ 12 ∧
  ∀ (p : Addr) (H' : Hp), Same H H' → H p = none → LinesAt K H' p (linesF (bs.map (·.1)) f) → (linesF (bs.map (·.1)) f).length ≤ 144 → Q (.ref p) H'
theorem ok_lines_in (T : Txt K mg t) : FnOk P w K mg base CX0 1 t.lines_in t.fd_lines_in ["net"] (sp_linesin K) := by
  refine T.f_lines_in.fn.ok sc_lines_in (fun vs H Q E h => ?_) (fun cdv A outer s H vs Q E hr h => ?_)
  · obtain ⟨a, bs, f, rfl, _⟩ := h; rfl
  · obtain ⟨a, bs, f, rfl, hN, hg, hlen, q⟩ := h
    have hu := hu_of hr
    generalize hks : bs.map (·.1) = ks at hg q
    have hkl : ks.length ≤ 12 := by rw [← hks, List.length_map]; exact hlen
    refine ⟨_, (pss_cons (ps_set (i := 1) sc_lines_in.nd rfl (Or.inl rfl) (pe_lst pa_nil))
      (pss_cons (ps_for PassesOwn.never rfl (pi_list (pe_callB call_sortedD (by rfl) T.b_sorted boot_sorted (pa_cons (pv 0) pa_nil))) (pg_name (i := 2) sc_lines_in.nd rfl (Or.inl rfl))
        (pss_one (ps_for PassesOwn.never rfl (pi_list (pe_callB call_sortedD (by rfl) T.b_sorted boot_sorted (pa_cons (pe_dget hu (pv 0) (pv 2) (fun _ _ => rfl)) pa_nil))) (pg_name (i := 3) sc_lines_in.nd rfl (Or.inl rfl))
        (pss_one (ps_if (pt_cmpR op_lt_str (pv 2) (pv 3) (nomark _))
        (pss_one (ps_expr (pe_bm PySem.F.plainAttrs_list PySem.F.slot_list_append PySem.F.type_list_append mt_append (pv 1) (pa_cons (pe_tup (pa_cons (pv 2) (pa_cons (pv 3) (pa_cons (pe_dget hu (pe_dget hu (pv 0) (pv 2) (fun _ _ => rfl)) (pv 3) (fun _ _ => rfl)) pa_nil)))) pa_nil))))
        pss_nil)))))
      (pss_one (ps_ret (pv 1))))), ?_⟩
    refine ⟨(by decide), fun p hp => ?_⟩
    have S1 := Same.updN (o := .lst []) hp
    refine ⟨_, rfl, rfl, a, _, ks, rfl, (hN.sm S1.sm).out, hks ▸ hN.keys, by omega, fun r hr' => ⟨r, rfl, ⟨_, SqL.of upd_same⟩, ?_⟩⟩
    have pr : p ≠ r := fun e => by rw [← e, upd_same] at hr'; cases hr'
    have hr0 := S1.free hr'
    have S2 := S1.trans (Same.updN (o := .lst ((sortS ks).map V.str)) hr')
    refine for_list (xs := (sortS ks).map V.str) (fun i σ H2 => ∃ x3 x4 ls, σ = [some (.ref a), some (.ref p), x3, x4] ∧ Same H H2 ∧ H2 r = some (.lst ((sortS ks).map V.str)) ∧ LinesAt K H2 p ls ∧ ls = ((sortS ks).take i).flatMap (fun x => rowL f x (sortS ((f x).map (·.1)))) ∧ ls.length ≤ 12 * i) ?_ (fun i σ H2 hi pv => ?_) (fun i x σ H2 hx pv => ?_) (fun σ H2 pv => ?_)
    · exact ⟨_, _, [], rfl, S2, upd_same, ⟨[], by rw [upd_ne pr, upd_same], .nil⟩, rfl, Nat.le_refl _⟩
    · obtain ⟨_, _, _, rfl, _, hR, _⟩ := pv
      exact SqL.of hR
    · obtain ⟨x3, x4, ls, rfl, hS, hR, hLs, hnorm, hll⟩ := pv
      rw [List.getElem?_map] at hx
      cases hk : (sortS ks)[i]? with
      | none => rw [hk] at hx; cases hx
      | some k =>
      rw [hk] at hx
      cases hx
      have hkm : k ∈ ks := mem_sortS.mp (List.mem_of_getElem? hk)
      have hNr := hN.sm hS.sm
      obtain ⟨b, hb, hbr⟩ := hNr.row (x := k) (hks ▸ hkm)
      have hrow : ((f k).map (·.1)).length ≤ ks.length := nd_len (hg.nd k hkm) (hg.inn k hkm)
      refine ⟨_, rfl, _, rfl, a, .ref b, rfl, hNr.dget hb, rfl, b, _, (f k).map (·.1), rfl, hbr, keysS_encI _, by omega, fun r2 hr2 => ⟨r2, rfl, ⟨_, SqL.of upd_same⟩, ?_⟩⟩
      have r2r : r ≠ r2 := ne_of_none hR hr2
      have T1 := hS.trans (Same.updN (o := .lst ((sortS ((f k).map (·.1))).map V.str)) hr2)
      refine for_list (xs := (sortS ((f k).map (·.1))).map V.str) (fun j σ H3 => ∃ x4 ls, σ = [some (.ref a), some (.ref p), some (.str k), x4] ∧ Same H H3 ∧ H3 r = some (.lst ((sortS ks).map V.str)) ∧ H3 r2 = some (.lst ((sortS ((f k).map (·.1))).map V.str)) ∧ LinesAt K H3 p ls ∧ ls = ((sortS ks).take i).flatMap (fun x => rowL f x (sortS ((f x).map (·.1)))) ++ rowL f k ((sortS ((f k).map (·.1))).take j) ∧ ls.length ≤ 12 * i + j) ?_ (fun j σ H3 hj pv => ?_) (fun j x σ H3 hx pv => ?_) (fun σ H3 pv => ?_)
      · refine ⟨_, ls, rfl, T1, by rw [upd_ne r2r]; exact hR, upd_same, hLs.same (Same.updN hr2), ?_, by omega⟩
        rw [hnorm]; simp [rowL]
      · obtain ⟨_, _, rfl, _, _, hR2, _⟩ := pv
        exact SqL.of hR2
      · obtain ⟨x4, ls, rfl, hS3, hR3, hR23, hLs3, hnorm3, hll3⟩ := pv
        rw [List.getElem?_map] at hx
        cases hy : (sortS ((f k).map (·.1)))[j]? with
        | none => rw [hy] at hx; cases hx
        | some y =>
        rw [hy] at hx
        cases hx
        have hym : y ∈ (f k).map (·.1) := mem_sortS.mp (List.mem_of_getElem? hy)
        obtain ⟨v, hv⟩ := look_some_iff.mpr hym
        have hj' : j < 12 := by
          have := (List.getElem?_eq_some_iff.mp hy).1
          rw [sortS_len] at this
          omega
        have hi' : i < 12 := by
          have := (List.getElem?_eq_some_iff.mp hk).1
          rw [sortS_len] at this
          omega
        obtain ⟨zs, hz1, hz2⟩ := hLs3
        have hzl := hz2.length
        rw [List.length_map] at hzl
        have rowtake : rowL f k ((sortS ((f k).map (·.1))).take (j + 1)) = rowL f k ((sortS ((f k).map (·.1))).take j) ++ (if sLt k y then [(k, y, v)] else []) := by
          unfold rowL
          rw [List.take_add_one, hy, List.filter_append, List.map_append]
          congr 1
          by_cases hlt : sLt k y
          · simp [hlt, hv]
          · simp [hlt]
        have hNr3 := hN.sm hS3.sm
        obtain ⟨b', hb', hbr'⟩ := hNr3.row (x := k) (hks ▸ hkm)
        refine ⟨_, rfl, _, rfl, _, _, rfl, rfl, _, rfl, iteD (fun hlt => ?_) (fun hlt => ?_)⟩
        · have hlt : sLt k y := hlt
          refine ⟨_, rfl, .inl ⟨rfl, _, SqL.of hz1⟩, _, rfl, _, rfl, _, rfl, _, rfl, a, _, rfl, hNr3.dget hb', _, rfl, b', _, rfl, hNr3.rget' hb' hv, (by show 3 ≤ sizeLine; decide), fun t ht => ⟨p, zs, _, rfl, rfl, (by rw [upd_ne (ne_of_none hz1 ht)]; exact hz1), szl (by omega), ?_⟩⟩
          refine ⟨_, ls ++ [(k, y, v)], rfl, (hS3.trans (Same.updN ht)).upd hp, ?_, ?_, LinesAt.snoc hz1 hz2 ht (k, y, v), ?_, by simp; omega⟩
          · rw [upd_ne (Ne.symm pr), upd_ne (ne_of_none hR3 ht)]; exact hR3
          · have : r2 ≠ p := fun e => by
              rw [e] at hr2
              obtain ⟨zz, q1, _⟩ := hLs
              rw [q1] at hr2; cases hr2
            rw [upd_ne this, upd_ne (ne_of_none hR23 ht)]; exact hR23
          · rw [hnorm3, rowtake, if_pos hlt, List.append_assoc]
        · have hlt : ¬ sLt k y := hlt
          refine ⟨_, ls, rfl, hS3, hR3, hR23, ⟨zs, hz1, hz2⟩, ?_, by omega⟩
          rw [hnorm3, rowtake, if_neg hlt, List.append_nil]
      · obtain ⟨x4, ls, rfl, hS3, hR3, hR23, hLs3, hnorm3, hll3⟩ := pv
        refine ⟨_, _, ls, rfl, hS3, hR3, hLs3, ?_, ?_⟩
        · rw [hnorm3, List.length_map, List.take_of_length_le (Nat.le_refl _), List.take_add_one, hk, List.flatMap_append]
          simp
        · rw [List.length_map, sortS_len] at hll3
          omega
    · obtain ⟨x3, x4, ls, rfl, hS, hR, hLs, hnorm, hll⟩ := pv
      rw [List.length_map, sortS_len] at hll
      rw [List.length_map, List.take_of_length_le (Nat.le_refl _)] at hnorm
      have e : ls = linesF ks f := hnorm
      subst e
      exact ⟨_, rfl, q p H2 hS hp hLs (by omega)⟩
/-! ### a net of the places of another one and lines -/
def sp_netofD (K : PySem.W.Frag) : Sp := fun vs H Q _ => ∃ (a b : Addr) (bs : Outer) (f : Str → L2.Row) (xs : List V) (ls : List Ln), vs = [.ref a, .ref b] ∧ NetR H a bs f ∧ SqL K H b xs ∧ Reps K H xs (ls.map lineD) ∧ bs.length ≤ 12 ∧ Ends2 (bs.map (·.1)) ls ∧
  ∀ p H', NS0 H p (sortS (bs.map (·.1))) (joinsF (fun _ => []) ls) H' → Q (.ref p) H'
theorem ok_net_of (T : Txt K mg t) : FnOk P w K mg base CX0 2 t.net_of t.fd_net_of ["places", "lines"] (sp_netofD K) := by
  refine T.f_net_of.fn.ok sc_net_of (fun vs H Q E h => ?_) (fun cdv A outer s H vs Q E hr h => ?_)
  · obtain ⟨a, b, bs, f, xs, ls, rfl, _⟩ := h; rfl
  · obtain ⟨a, b, bs0, f, xs, ls, rfl, hN0, hB, hRp, hlen, hen, q⟩ := h
    have hu := hu_of hr
    have hnd := hN0.ks
    generalize hks : bs0.map (·.1) = ss at hen q hnd
    have hlen : ss.length ≤ 12 := by rw [← hks, List.length_map]; exact hlen
    refine ⟨_, (pss_cons (ps_set (i := 2) sc_net_of.nd rfl (Or.inl rfl) pe_dnewK)
      (pss_cons (ps_for PassesOwn.never rfl (pi_list (pe_callB call_sortedD (by rfl) T.b_sorted boot_sorted (pa_cons (pv 0) pa_nil))) (pg_name (i := 3) sc_net_of.nd rfl (Or.inl rfl))
        (pss_one (ps_dput hu (pv 2) (pv 3) pe_dnewK rfl)))
      (pss_cons (ps_for PassesOwn.never rfl (pi_list (pv 1)) (pg_tup rfl (pgs_cons (pg_name (i := 4) sc_net_of.nd rfl (Or.inl rfl)) (pgs_cons (pg_name (i := 5) sc_net_of.nd rfl (Or.inl rfl)) (pgs_cons (pg_name (i := 6) sc_net_of.nd rfl (Or.inl rfl)) pgs_nil))))
        (pss_one (ps_expr (pe_call (ok_join_line T) (hr.mono (by decide)) rfl T.f_join_line.mg T.f_join_line.kp T.f_join_line.bd .nil pass0 (pa_cons (pv 2) (pa_cons (pv 4) (pa_cons (pv 5) (pa_cons (pv 6) pa_nil))))))))
      (pss_one (ps_ret (pv 2)))))), ?_⟩
    intro p hp
    have S0 := Same.updN (o := .dK []) hp
    refine ⟨_, rfl, rfl, a, _, ss, rfl, (hN0.sm S0.sm).out, hks ▸ hN0.keys, by omega, fun r hr' => ⟨r, rfl, ⟨_, SqL.of upd_same⟩, ?_⟩⟩
    have S1 := S0.trans (Same.updN (o := .lst ((sortS ss).map V.str)) hr')
    have pr : p ≠ r := fun e => by rw [← e, upd_same] at hr'; cases hr'
    have hr0 := S0.free hr'
    refine for_list (xs := (sortS ss).map V.str) (fun i σ H2 => ∃ x3 bs, σ = [some (.ref a), some (.ref b), some (.ref p), x3, none, none, none] ∧ Same H H2 ∧ H2 r = some (.lst ((sortS ss).map V.str)) ∧ NetAt H2 p bs (fun _ => []) ∧ bs.map (·.1) = (sortS ss).take i ∧ New H p bs) ?_ (fun i σ H2 hi pv => ?_) (fun i x σ H2 hx pv => ?_) (fun σ H2 pv => ?_)
    · refine ⟨_, [], rfl, S1, upd_same, ⟨by rw [upd_ne pr, upd_same]; rfl, fun _ h => absurd h (by simp), List.nodup_nil, by simp⟩, rfl, hp, fun _ h => absurd h (by simp)⟩
    · obtain ⟨_, _, rfl, _, hR, _⟩ := pv
      exact SqL.of hR
    · obtain ⟨x3, bs, rfl, hS, hR, hN, hbs, hnew⟩ := pv
      rw [List.getElem?_map] at hx
      cases hk : (sortS ss)[i]? with
      | none => rw [hk] at hx; cases hx
      | some k =>
      rw [hk] at hx
      cases hx
      have hfresh : k ∉ bs.map (·.1) := by rw [hbs]; exact nodup_take (sortS_nodup hnd) hk
      have hbl : bs.length ≤ 12 := by
        have := congrArg List.length hbs
        rw [List.length_map, List.length_take, sortS_len] at this
        omega
      intro r2 hr2
      obtain ⟨d1, d2⟩ := hN.add (x := k) hfresh hr2 (szl (by omega)) rfl
      refine ⟨_, rfl, _, rfl, p, _, rfl, d1, _, bs ++ [(k, r2)], rfl, ?_, ?_, d2, ?_, hnew.1, fun z hz => ?_⟩
      · exact (hS.trans (Same.updN hr2)).upd hp
      · rw [upd_ne (Ne.symm pr), upd_ne (ne_of_none hR hr2)]; exact hR
      · rw [List.map_append, hbs, List.take_add_one, hk]; rfl
      · rcases List.mem_append.mp hz with c | c
        · exact hnew.2 z c
        · rw [List.mem_singleton.mp c]; exact hS.free hr2
    · obtain ⟨x3, bs, rfl, hS, hR, hN, hbs, hnew⟩ := pv
      rw [List.length_map, List.take_of_length_le (Nat.le_refl _)] at hbs
      have hmem : ∀ z, z ∈ bs.map (·.1) ↔ z ∈ ss := fun z => by rw [hbs]; exact mem_sortS
      refine ⟨_, rfl, b, rfl, ⟨_, hS.seq hB⟩, for_list (xs := xs) (fun i σ H3 => ∃ x4 x5 x6, σ = [some (.ref a), some (.ref b), some (.ref p), x3, x4, x5, x6] ∧ Same H H3 ∧ NetAt H3 p bs (joinsF (fun _ => []) (ls.take i))) ⟨_, _, _, rfl, hS, hN⟩ (fun i σ H3 _ pv => ?_) (fun i x σ H3 hx pv => ?_) (fun σ H3 pv => ?_)⟩
      · obtain ⟨_, _, _, rfl, hS3, _⟩ := pv; exact hS3.seq hB
      · obtain ⟨x4, x5, x6, rfl, hS3, hN3⟩ := pv
        obtain ⟨l, tt, hl, rfl, hT⟩ := (hRp.sm hS3.sm).line hx
        obtain ⟨l1, l2, l3⟩ := hen l (List.mem_of_getElem? hl)
        obtain ⟨b1, hb1⟩ := addrOf_some ((hmem _).mpr l1)
        obtain ⟨b2, hb2⟩ := addrOf_some ((hmem _).mpr l2)
        have hrows := (RowsIn.nil ss).joins (hen.take i)
        have rl : ∀ x, x ∈ ss → (joinsF (fun _ => []) (ls.take i) x).length < sizeLine := fun x hx => szl (by have := hrows.len hx; omega)
        refine ⟨tt, _, rfl, hT, rfl, _, _, rfl, _, _, rfl, _, _, rfl, rfl, ?_⟩
        refine ⟨_, rfl, _, rfl, _, rfl, _, rfl, p, bs, _, l.1, l.2.1, b1, b2, l.2.2, rfl, hN3, hb1, hb2, l3, rl _ l1, rl _ l2, fun H5 hN5 hk => ?_⟩
        refine ⟨_, _, _, rfl, fun c o hc => ?_, ?_⟩
        · rw [hk c (ne_of_none hc (hnew.2 _ (addrOf_mem hb1))) (ne_of_none hc (hnew.2 _ (addrOf_mem hb2)))]
          exact hS3 _ _ hc
        · rw [joinsF_succ hl]; exact hN5
      · obtain ⟨x4, x5, x6, rfl, hS3, hN3⟩ := pv
        rw [hRp.length, List.length_map, List.take_of_length_le (Nat.le_refl _)] at hN3
        exact ⟨_, rfl, q p H3 ⟨bs, hS3, hN3, hbs, hnew⟩⟩
def sp_hasline : Sp := fun vs H Q _ => ∃ (a : Addr) (bs : Outer) (f : Str → L2.Row) (x y : Str), vs = [.ref a, .str x, .str y] ∧ NetR H a bs f ∧ Q (.bl (!badP (bs.map (·.1)) f (x, y))) H
theorem ok_has_line (T : Txt K mg t) : FnOk P w K mg base CX0 2 t.has_line t.fd_has_line ["net", "one", "other"] sp_hasline := by
  refine T.f_has_line.fn.ok sc_has_line (fun vs H Q E h => ?_) (fun cdv A outer s H vs Q E hr h => ?_)
  · obtain ⟨a, bs, f, x, y, rfl, _⟩ := h; rfl
  · obtain ⟨a, bs, f, x, y, rfl, hN, q⟩ := h
    have hu := hu_of hr
    refine ⟨_, (pss_one (ps_ret (pe_and (pe_call (ok_has_place T) (hr.mono (by decide)) rfl T.f_has_place.mg T.f_has_place.kp T.f_has_place.bd .nil pass0 (pa_cons (pv 0) (pa_cons (pv 1) pa_nil))) (pe_one (pe_call (ok_has_place T) (hr.mono (by decide)) rfl T.f_has_place.mg T.f_has_place.kp T.f_has_place.bd .nil pass0 (pa_cons (pe_dget hu (pv 0) (pv 1) (fun _ _ => rfl)) (pa_cons (pv 2) pa_nil))))))), ?_⟩
    refine ⟨_, rfl, _, rfl, a, _, _, .str x, rfl, hN.out, .str x, _, rfl, ?_⟩
    by_cases hx : x ∈ bs.map (·.1)
    · obtain ⟨b, hb⟩ := addrOf_some hx
      rw [show hasD (encO bs) (.str x) = true by show (valV (encO bs) (Sum.inr x)).isSome = true; rw [valV_encO, hb]; rfl]
      refine iteT ⟨_, rfl, _, rfl, a, _, rfl, hN.dget hb, _, rfl, b, _, _, .str y, rfl, hN.inn _ (addrOf_mem hb), .str y, ?_⟩
      have e : hasD (encI (f x)) (.str y) = !badP (bs.map (·.1)) f (x, y) := by
        show (valV (encI (f x)) (Sum.inr y)).isSome = _
        rw [valV_enc, Option.isSome_map]
        unfold badP
        rw [decide_eq_true hx]; simp
      rw [e]; exact q
    · have e0 : hasD (encO bs) (.str x) = false := by show (valV (encO bs) (Sum.inr x)).isSome = false; rw [valV_encO, addrOf_none.mpr hx]; rfl
      have e : (!badP (bs.map (·.1)) f (x, y)) = false := by unfold badP; rw [decide_eq_false hx]; rfl
      rw [e] at q
      rw [e0]
      exact iteF q
end
end K05

set_option Elab.async false
set_option linter.all false
set_option maxRecDepth 100000
set_option maxHeartbeats 4000000
namespace K05
open PySem L2 PySem.Spec PyProof.Rows
section
variable {P : Program} {w : World} {K : PySem.W.Frag} {mg : Str → Option Value} {base : Heap} {t : Adr}
/-! ### no such line -/
def sp_init2 (K : PySem.W.Frag) (f1 f2 : Str) : Sp := fun vs H Q _ => ∃ x C u v D fI, vs = [.ref x, u, v] ∧ XCls K C D fI ∧ NoAttr K C f1 ∧ NoAttr K C f2 ∧ H x = some (.ext (ExcNew x C none)) ∧ ∀ dx, H dx = none → dx ≠ x → Q .non (upd (upd (upd H dx (.ext (XdAt dx [(f1, u)]))) x (.ext (ExcNew x C (some dx)))) dx (.ext (XdAt dx (putF f2 v [(f1, u)]))))
theorem ok_NoLine_i (T : Txt K mg t) : FnOk P w K mg base CX0 1 t.NoLine_i t.fd_NoLine_i ["self", "one", "other"] (sp_init2 K "one" "other") := by
  refine T.x_NoLine.fn.ok sc_NoLine_i (fun vs H Q E h => ?_) (fun cdv A outer s H vs Q E hr h => ?_)
  · obtain ⟨x, C, u, v, D, fI, rfl, _⟩ := h; rfl
  · obtain ⟨x, C, u, v, D, fI, rfl, c, na1, na2, hx, q⟩ := h
    refine ⟨_, (pss_cons (ps_xset (pv 0) (pv 1)) (pss_one (ps_xset (pv 0) (pv 2)))), ?_⟩
    exact ⟨_, rfl, _, rfl, x, C, D, fI, none, rfl, c, na1, hx, .inl ⟨rfl, fun dx h1 h2 => ⟨_, rfl, _, rfl, x, C, D, fI, some dx, rfl, c, na2, upd_same, .inr ⟨dx, _, rfl, (by rw [upd_ne h2, upd_same]), h2, (by show 1 ≤ 100; decide), q dx h1 h2⟩⟩⟩⟩
/-! ### a net without lines -/
def sp_netless (K : PySem.W.Frag) (C : Addr) : Sp := fun vs H Q E => ∃ (a b : Addr) (bs : Outer) (f : Str → L2.Row) (xs : List V) (ps : List Pr), vs = [.ref a, .ref b] ∧ NetR H a bs f ∧ GN (bs.map (·.1)) f ∧ bs.length ≤ 12 ∧ SqL K H b xs ∧ Reps K H xs (ps.map pairD) ∧ ps.length ≤ 100 ∧
  (ps.find? (badP (bs.map (·.1)) f) = none → ∀ p H', NS0 H p (sortS (bs.map (·.1))) (joinsF (fun _ => []) ((linesF (bs.map (·.1)) f).filter (keepL ps))) H' → Q (.ref p) H') ∧
  (∀ pr, ps.find? (badP (bs.map (·.1)) f) = some pr → ∀ x dx fs H', Same H H' → H x = none → H dx = none → dx ≠ x → H' x = some (.ext (ExcAt x C (some dx))) → H' dx = some (.ext (XdAt dx fs)) → fs.lookup ("one" : Str) = some (V.str pr.1) → fs.lookup ("other" : Str) = some (V.str pr.2) → E (.ref x) (some dx) H')
theorem ok_net_less (T : Txt K mg t) : FnOk P w K mg base (CXe P w) 3 t.net_less t.fd_net_less ["net", "lines"] (sp_netless K t.NoLine) := by
  refine T.f_net_less.fn.okX sc_net_less (fun vs H Q E h => ?_) (fun cdv A outer s H vs Q E hr h => ?_)
  · obtain ⟨a, b, bs, f, xs, ps, rfl, _⟩ := h; rfl
  · obtain ⟨a, b, bs, f, xs, ps, rfl, hN, hg, hlen, hB, hRp, hpl, q1, q2⟩ := h
    have hu := hu_of hr
    have hnd := hN.ks
    generalize hks : bs.map (·.1) = ks at hg q1 q2 hnd
    refine ⟨_, (pss_cons (ps_set (i := 2) sc_net_less.nd rfl (Or.inr rfl) pe_dnewT)
      (pss_cons (ps_for PassesOwn.leaving rfl (pi_list (pv 1)) (pg_tup rfl (pgs_cons (pg_name (i := 3) sc_net_less.nd rfl (Or.inl rfl)) (pgs_cons (pg_name (i := 4) sc_net_less.nd rfl (Or.inl rfl)) pgs_nil)))
        (pss_cons (ps_if (pt_not (pt_val (pe_call (ok_has_line T) (hr.mono (by decide)) rfl T.f_has_line.mg T.f_has_line.kp T.f_has_line.bd .nil pass0 (pa_cons (pv 0) (pa_cons (pv 3) (pa_cons (pv 4) pa_nil))))))
        (pss_one (ps_raise T.x_NoLine.cls (ok_NoLine_i T) (hr.mono (by decide)) T.x_NoLine.bd rfl T.x_NoLine.mg (pa_cons (pv 3) (pa_cons (pv 4) pa_nil))))
        pss_nil)
      (pss_cons (ps_dput hu (pv 2) (pe_tup (pa_cons (pv 3) (pa_cons (pv 4) pa_nil))) pe_bl rfl)
      (pss_one (ps_dput hu (pv 2) (pe_tup (pa_cons (pv 4) (pa_cons (pv 3) pa_nil))) pe_bl rfl)))))
      (pss_one (ps_ret (pe_call (ok_net_of T) (hr.mono (by decide)) rfl T.f_net_of.mg T.f_net_of.kp T.f_net_of.bd .nil pass0 (pa_cons (pv 0) (pa_cons (pe_comp ["line"] [2] rfl (pi_list (pe_call (ok_lines_in T) (hr.mono (by decide)) rfl T.f_lines_in.mg T.f_lines_in.kp T.f_lines_in.bd .nil pass0 (pa_cons (pv 0) pa_nil))) (fun _ _ _ _ _ => (pg_name (i := 0) (show (["line", "out"] : List Str).Nodup by decide +kernel) rfl (Or.inl rfl))) (fun _ _ _ _ _ => (pif_one (pt_cmp (pc_dnotin hu (pe_slice (sl_tupK (K := K) rfl) (pv 0) po_none (po_some pe_int)) (pv 1))))) (fun _ _ _ _ _ => (pv 0)) ⟨⟨_, rfl, rfl, .inl rfl⟩, trivial⟩ (hfr := by show ∀ y ∈ (_ : List (Str × NameKind)), y.2 = NameKind.free → (defScope s_net_less).names.lookup y.1 = some NameKind.cell ∨ (defScope s_net_less).names.lookup y.1 = some NameKind.free; decide +kernel)) pa_nil))))))), ?_⟩
    intro o ho
    have S0 := Same.updN (o := .dT []) ho
    have hxl : xs.length = ps.length := by rw [hRp.length, List.length_map]
    refine ⟨_, rfl, b, rfl, ⟨_, S0.seq hB⟩, for_list (xs := xs) (fun i σ H2 => ∃ x3 x4 kvs, σ = [some (.ref a), some (.ref b), some (.ref o), x3, x4] ∧ Same H H2 ∧ H2 o = some (.dT kvs) ∧ kvs.length ≤ 2 * i ∧ (∀ x y, (valV kvs [Sum.inr x, Sum.inr y]).isSome = cutB (ps.take i) x y) ∧ (ps.take i).find? (badP ks f) = none) ⟨_, _, [], rfl, S0, upd_same, Nat.zero_le _, fun _ _ => rfl, rfl⟩ (fun i σ H2 hi pv => ?_) (fun i x σ H2 hx pv => ?_) (fun σ H2 pv => ?_)⟩
    · obtain ⟨_, _, _, rfl, hS, _⟩ := pv
      exact hS.seq hB
    · obtain ⟨x3, x4, kvs, rfl, hS, hO, hkl, hcut, hfind⟩ := pv
      obtain ⟨pr, tt, hl, rfl, hT⟩ := (hRp.sm hS.sm).pair hx
      have hi : i < 100 := by
        have := (List.getElem?_eq_some_iff.mp hl).1
        omega
      have hN2 := hN.sm hS.sm
      refine ⟨tt, _, rfl, hT, rfl, _, _, rfl, _, _, rfl, rfl, ?_⟩
      refine ⟨_, rfl, _, rfl, _, rfl, a, bs, f, pr.1, pr.2, rfl, hN2, _, rfl, ?_⟩
      rw [hks]
      cases hb : badP ks f (pr.1, pr.2) with
      | true =>
        refine iteT ⟨_, rfl, _, rfl, (by show 2 ≤ 100; decide), fun x hx => ⟨x, t.NoLine, _, _, _, _, rfl, T.x_NoLine.cls, T.na_NoLine_one, T.na_NoLine_other, upd_same .., fun dx h1 h2 => ⟨rfl, some dx, ?_, ?_⟩⟩⟩
        · rw [upd_ne (Ne.symm h2), upd_same]
        have hdx : H2 dx = none := by rw [upd_ne h2] at h1; exact h1
        refine q2 pr (find_first hfind hl hb) x dx (putF "other" (.str pr.2) [("one", .str pr.1)]) _ (fun c u e => ?_) (hS.free hx) (hS.free hdx) h2 (upd_same ..) ?_ ?_ ?_
        · have e' := hS c u e
          have n1 : c ≠ x := fun z => by rw [z, hx] at e'; cases e'
          have n2 : c ≠ dx := fun z => by rw [z, hdx] at e'; cases e'
          rw [upd_ne n1, upd_ne n2, upd_ne n1, upd_ne n2, upd_ne n1]; exact e'
        · rw [upd_ne h2, upd_same]
        · rw [lookup_putF, if_neg (by decide)]; rfl
        · rw [lookup_putF, if_pos rfl]
      | false =>
        refine iteF ⟨_, rfl, _, rfl, _, rfl, (by show 2 ≤ sizeLine; decide), fun k1 hk1 => ?_⟩
        have n1 : o ≠ k1 := ne_of_none hO hk1
        refine ⟨o, _, rfl, DPut.t (kvs := kvs) (k := [Sum.inr pr.1, Sum.inr pr.2]) (by rw [upd_ne n1]; exact hO) upd_same (szl (by omega)), ?_⟩
        refine ⟨_, rfl, _, rfl, _, rfl, (by show 2 ≤ sizeLine; decide), fun k2 hk2 => ?_⟩
        have n2 : o ≠ k2 := fun z => by rw [← z, upd_same] at hk2; cases hk2
        have hk2' : H2 k2 = none := by
          rw [upd_ne (Ne.symm n2)] at hk2
          have n3 : k2 ≠ k1 := fun z => by rw [z, upd_same] at hk2; cases hk2
          rw [upd_ne n3] at hk2; exact hk2
        refine ⟨o, _, rfl, DPut.t (kvs := putK kvs [Sum.inr pr.1, Sum.inr pr.2] (.bl true)) (k := [Sum.inr pr.2, Sum.inr pr.1]) (by rw [upd_ne n2, upd_same]) upd_same (szl (by have := putK_len kvs [Sum.inr pr.1, Sum.inr pr.2] (.bl true); omega)), ?_⟩
        refine ⟨_, _, _, rfl, ?_, upd_same, ?_, fun x y => ?_, ?_⟩
        · exact (((hS.upd (hS.free hk1)).upd ho).upd (hS.free hk2')).upd ho
        · have h1 := putK_len kvs [Sum.inr pr.1, Sum.inr pr.2] (.bl true)
          have h2 := putK_len (putK kvs [Sum.inr pr.1, Sum.inr pr.2] (.bl true)) [Sum.inr pr.2, Sum.inr pr.1] (.bl true)
          omega
        · rw [valV_put, valV_put, cutB_succ hl, ← hcut x y]
          by_cases c1 : pr.1 = x ∧ pr.2 = y
          · obtain ⟨rfl, rfl⟩ := c1
            by_cases c2 : ([Sum.inr pr.1, Sum.inr pr.2] : List Key) = [Sum.inr pr.2, Sum.inr pr.1]
            · rw [if_pos c2]; simp
            · rw [if_neg c2, if_pos rfl]; simp
          · by_cases c2 : pr.1 = y ∧ pr.2 = x
            · obtain ⟨rfl, rfl⟩ := c2
              rw [if_pos rfl]; simp
            · rw [if_neg (by intro z; simp at z; exact c2 ⟨z.2.symm, z.1.symm⟩), if_neg (by intro z; simp at z; exact c1 ⟨z.1.symm, z.2.symm⟩)]
              simp [c1, c2]
        · rw [List.take_add_one, hl, List.find?_append, hfind]
          simp [hb]
    · obtain ⟨x3, x4, kvs, rfl, hS, hO, hkl, hcut, hfind⟩ := pv
      rw [hxl, List.take_of_length_le (Nat.le_refl _)] at hcut hfind
      refine ⟨_, rfl, _, rfl, a, bs, f, rfl, hN.sm hS.sm, hks ▸ hg.rows, hlen, fun p1 H3 S3 hp1 hL hll => ?_⟩
      rw [hks] at hL hll
      obtain ⟨zs, hz1, hz2⟩ := hL
      have hzl : zs.length = (linesF ks f).length := by rw [hz2.length, List.length_map]
      have hO3 : H3 o = some (.dT kvs) := S3 _ _ hO
      refine ⟨p1, rfl, ⟨_, SqL.of hz1⟩, comp_inv zs.length (fun i ys H4 => Same H3 H4 ∧ ys.length ≤ i ∧ i ≤ 144 ∧ Reps K H4 ys ((((linesF ks f).take i).filter (keepL ps)).map lineD)) ⟨Same.refl _, Nat.le_refl _, Nat.zero_le _, .nil⟩ (fun i ys H4 pv => szl (by omega)) (fun i ys H4 hi pv => ?_) (fun ys H4 pv => ?_)⟩
      · obtain ⟨S4, hyl, _, hys⟩ := pv
        have hz4 := S4 _ _ hz1
        refine ⟨⟨_, _, SqL.of hz4, List.getElem?_eq_getElem hi⟩, ?_⟩
        rintro v H5 ⟨rfl, hv⟩
        have hv := hv _ (SqL.of hz4)
        obtain ⟨l, tt, hl, rfl, hT⟩ := (hz2.sm S4.sm).line hv
        refine ⟨_, rfl, _, rfl, tt, _, rfl, hT, (by show ¬ (HT.sIx 3 0 none = 0 ∧ HT.sIx 3 3 (some 2) = 3); decide), fun q1 hq1 => ?_⟩
        have hOq : (upd H5 q1 (.tup (cutV [.str l.1, .str l.2.1, .int l.2.2] none (some 2)))) o = some (.dT kvs) := by rw [upd_ne (ne_of_none (S4 _ _ hO3) hq1)]; exact S4 _ _ hO3
        refine ⟨_, rfl, o, _, rfl, DGet.t (k := [Sum.inr l.1, Sum.inr l.2.1]) hOq (by rw [upd_same]; rfl), _, rfl, ?_⟩
        rw [hcut]
        have e : (!cutB ps l.1 l.2.1) = keepL ps l := rfl
        rw [e]
        have S5 := S4.trans (Same.updN (o := .tup (cutV [.str l.1, .str l.2.1, .int l.2.2] none (some 2))) hq1)
        have rl := (Reps.one (Rep.tup (hT) (.cons (.str l.1) (.cons (.str l.2.1) (.cons (.int l.2.2) .nil)))) : Reps K H5 [V.ref tt] [lineD l])
        refine iteB (fun hb => ⟨_, rfl, nxC hi ⟨S5, by simp; omega, by omega, ?_⟩⟩) (fun hb => nxC hi ⟨S5, by omega, by omega, ?_⟩)
        · rw [List.take_add_one, hl, List.filter_append, List.map_append]
          have : ([l].filter (keepL ps)).map lineD = [lineD l] := by simp [hb]
          show Reps K _ (ys ++ [V.ref tt]) (_ ++ ([l].filter (keepL ps)).map lineD)
          rw [this]
          exact (hys.append rl).sm (Same.updN hq1).sm
        · rw [List.take_add_one, hl, List.filter_append, List.map_append]
          have : ([l].filter (keepL ps)).map lineD = [] := by simp [hb]
          show Reps K _ ys (_ ++ ([l].filter (keepL ps)).map lineD)
          rw [this, List.append_nil]
          exact hys.sm (Same.updN hq1).sm
      · obtain ⟨S4, hyl, _, hys⟩ := pv
        rw [hzl, List.take_of_length_le (Nat.le_refl _)] at hys
        refine ⟨⟨_, SqL.of (S4 _ _ hz1), Nat.le_refl _⟩, fun r1 hr1 => ?_⟩
        have S5 := ((hS.trans S3).trans S4).trans (Same.updN (o := .lst ys) hr1)
        obtain ⟨en, _, _⟩ := joins_left hnd hg ps
        refine ⟨a, r1, bs, f, ys, _, rfl, hN.sm S5.sm, SqL.of upd_same, hys.sm (Same.updN hr1).sm, hlen, hks ▸ en, fun p H' hNS => ?_⟩
        rw [hks] at hNS
        obtain ⟨bs', S6, h1, h2, h3⟩ := hNS
        exact q1 hfind p H' ⟨bs', S5.trans S6, h1, h2, h3.same S5⟩
/-! ### a net with lines joined -/
def sp_netjoined (K : PySem.W.Frag) : Sp := fun vs H Q _ => ∃ (a b : Addr) (bs : Outer) (f : Str → L2.Row) (xs : List V) (ls : List Ln), vs = [.ref a, .ref b] ∧ NetR H a bs f ∧ GN (bs.map (·.1)) f ∧ bs.length ≤ 12 ∧ SqL K H b xs ∧ Reps K H xs (ls.map lineD) ∧ ls.length ≤ 100 ∧ Ends2 (bs.map (·.1)) ls ∧
  ∀ p H', NS0 H p (sortS (bs.map (·.1))) (joinsF (joinsF (fun _ => []) (linesF (bs.map (·.1)) f)) ls) H' → Q (.ref p) H'
theorem ok_net_joined (T : Txt K mg t) : FnOk P w K mg base CX0 3 t.net_joined t.fd_net_joined ["net", "lines"] (sp_netjoined K) := by
  refine T.f_net_joined.fn.ok sc_net_joined (fun vs H Q E h => ?_) (fun cdv A outer s H vs Q E hr h => ?_)
  · obtain ⟨a, b, bs, f, xs, ls, rfl, _⟩ := h; rfl
  · obtain ⟨a, b, bs, f, xs, ls, rfl, hN, hg, hlen, hB, hRp, hpl, hen, q⟩ := h
    refine ⟨_, (pss_one (ps_ret (pe_call (ok_net_of T) (hr.mono (by decide)) rfl T.f_net_of.mg T.f_net_of.kp T.f_net_of.bd .nil pass0 (pa_cons (pv 0) (pa_cons (pe_op op_cat (pe_call (ok_lines_in T) (hr.mono (by decide)) rfl T.f_lines_in.mg T.f_lines_in.kp T.f_lines_in.bd .nil pass0 (pa_cons (pv 0) pa_nil)) (pe_callTy call_list_of (by rfl) T.b_list boot_ty_list (pa_cons (pv 1) pa_nil))) pa_nil))))), ?_⟩
    refine ⟨_, rfl, _, rfl, a, bs, f, rfl, hN, hg.rows, hlen, fun p1 H1 S1 hp1 hL hll => ?_⟩
    obtain ⟨zs, hz1, hz2⟩ := hL
    have hzl : zs.length = (linesF (bs.map (·.1)) f).length := by rw [hz2.length, List.length_map]
    have hxl : xs.length = ls.length := by rw [hRp.length, List.length_map]
    refine ⟨_, rfl, b, xs, rfl, .inl (S1.seq hB), fun q1 hq1 => ?_⟩
    have S2 := S1.trans (Same.updN (o := .lst xs) hq1)
    refine ⟨p1, q1, zs, xs, rfl, rfl, (by rw [upd_ne (ne_of_none hz1 hq1)]; exact hz1), upd_same, sz (by omega), fun q2 hq2 => ?_⟩
    have S3 := S2.trans (Same.updN (o := .lst (zs ++ xs)) hq2)
    have en : Ends2 (bs.map (·.1)) (linesF (bs.map (·.1)) f ++ ls) := by
      obtain ⟨B, _, g⟩ := hg
      intro l hl
      rcases List.mem_append.mp hl with c | c
      · exact linesF_ends g l c
      · exact hen l c
    have sm2 : Sm H1 _ := ((Same.updN (o := .lst xs) hq1).trans (Same.updN (o := .lst (zs ++ xs)) hq2)).sm
    refine ⟨a, q2, bs, f, zs ++ xs, linesF (bs.map (·.1)) f ++ ls, rfl, hN.sm S3.sm, SqL.of upd_same, ?_, hlen, en, fun p H' hNS => ?_⟩
    · rw [List.map_append]
      exact (hz2.sm sm2).append (hRp.sm S3.sm)
    · rw [joinsF_app] at hNS
      obtain ⟨bs', S6, h1, h2, h3⟩ := hNS
      exact q p H' ⟨bs', S3.trans S6, h1, h2, h3.same S3⟩
end
end K05

set_option Elab.async false
set_option linter.all false
set_option maxRecDepth 100000
set_option maxHeartbeats 4000000
namespace K05
open PySem L2 PySem.Spec PyProof.Rows
section
variable {P : Program} {w : World} {K : PySem.W.Frag} {mg : Str → Option Value} {base : Heap} {t : Adr}
/-! ### a copy of a net -/
def sp_copied : Sp := fun vs H Q _ => ∃ (a : Addr) (bs : Outer) (f : Str → L2.Row), vs = [.ref a] ∧ NetAt H a bs f ∧ bs.length ≤ 12 ∧ ∀ p H', NS0 H p (bs.map (·.1)) f H' → Q (.ref p) H'
theorem ok_l_copied (T : Txt K mg t) : FnOk P w K mg base CX0 1 t.l_copied t.fd_l_copied ["_law_net_here"] sp_copied := by
  refine T.f_l_copied.fn.ok sc_l_copied (fun vs H Q E h => ?_) (fun cdv A outer s H vs Q E hr h => ?_)
  · obtain ⟨a, bs, f, rfl, _⟩ := h; rfl
  · obtain ⟨a, bs, f, rfl, hN, hlen, q⟩ := h
    have hu := hu_of hr
    refine ⟨_, (pss_cons (ps_set (i := 1) sc_l_copied.nd rfl (Or.inl rfl) pe_dnewK)
      (pss_cons (ps_forD PassesOwn.never rfl (pv 0) (pg_name (i := 2) sc_l_copied.nd rfl (Or.inl rfl))
        (pss_one (ps_dput hu (pv 1) (pv 2) (pe_callTy call_dictOf (by rfl) T.b_dict boot_ty_dict (pa_cons (pe_dget hu (pv 0) (pv 2) (fun _ _ => rfl)) pa_nil)) rfl)))
      (pss_one (ps_ret (pv 1))))), ?_⟩
    intro p hp
    have pa : a ≠ p := ne_of_none hN.out hp
    have S0 := Same.updN (o := .dK []) hp
    have hN1 := hN.same S0
    refine ⟨_, rfl, a, _, rfl, .inl hN1.out, fun o H2 fz => forDm hN1.out fz (fun i σ H3 => ∃ x2 cs, σ = [some (.ref a), some (.ref p), x2] ∧ (∀ b u, b ≠ a → H b = some u → H3 b = some u) ∧ H3 a = some (.frz o (.dK (encO bs))) ∧ NetAt H3 p cs f ∧ cs.map (·.1) = (bs.map (·.1)).take i ∧ New H p cs) (fun e => ?_) (fun _ _ _ h => ?_) (fun i k v σ H3 hk pv => ?_) (fun σ H3 pv => ?_)⟩
    · subst e
      refine ⟨_, [], rfl, fun b u hb e => by rw [upd_ne hb]; exact S0 _ _ e, upd_same, ⟨by rw [upd_ne (Ne.symm pa), upd_same]; rfl, fun _ h => absurd h (by simp), List.nodup_nil, by simp⟩, rfl, hp, fun _ h => absurd h (by simp)⟩
    · obtain ⟨_, _, _, _, h, _⟩ := h; exact h
    · obtain ⟨x2, cs, rfl, hrest, ha, hC, hcs, hnew⟩ := pv
      unfold encO at hk
      rw [List.getElem?_map] at hk
      cases hb : bs[i]? with
      | none => rw [hb] at hk; cases hk
      | some z =>
      rw [hb] at hk
      cases hk
      have hz : z ∈ bs := List.mem_of_getElem? hb
      have had := mem_addrOf hN.ks (x := z.1) (b := z.2) hz
      have hza : z.2 ≠ a := hN.ne had
      have hrow := hrest _ _ hza (hN.inn z hz)
      have hfresh : z.1 ∉ cs.map (·.1) := by rw [hcs]; exact nodup_take hN.ks (by rw [List.getElem?_map, hb]; rfl)
      have hcl : cs.length ≤ 12 := by
        have := congrArg List.length hcs
        rw [List.length_map, List.length_take, List.length_map] at this
        omega
      refine ⟨_, rfl, _, rfl, a, .ref z.2, rfl, .inl ⟨encO bs, Sum.inr z.1, .inr ⟨o, ha⟩, rfl, by rw [valV_encO, had]; rfl⟩, z.2, _, rfl, .inl hrow, fun r2 hr2 => ?_⟩
      obtain ⟨d1, d2⟩ := hC.add2 (x := z.1) hfresh hr2 (szl (by omega))
      have r2a : r2 ≠ a := fun e => by rw [e, ha] at hr2; cases hr2
      refine ⟨_, rfl, _, rfl, p, _, rfl, d1, _, cs ++ [(z.1, r2)], rfl, fun b u hba e => ?_, ?_, d2, ?_, hnew.1, fun y hy => ?_⟩
      · have e3 := hrest b u hba e
        rw [upd_ne (ne_of_none e hp), upd_ne (ne_of_none e3 hr2)]; exact e3
      · rw [upd_ne pa, upd_ne (Ne.symm r2a)]; exact ha
      · rw [List.map_append, hcs, List.take_add_one, List.getElem?_map, hb]; rfl
      · rcases List.mem_append.mp hy with c | c
        · exact hnew.2 y c
        · rw [List.mem_singleton.mp c]
          cases hh : H r2 with
          | none => rfl
          | some u => rw [hrest r2 u r2a hh] at hr2; cases hr2
    · obtain ⟨x2, cs, rfl, hrest, ha, hC, hcs, hnew⟩ := pv
      have el : (encO bs).length = (bs.map (·.1)).length := by unfold encO; simp
      rw [el, List.take_of_length_le (Nat.le_refl _)] at hcs
      refine ⟨_, rfl, q p _ ⟨cs, fun b u e => ?_, ?_, hcs, hnew⟩⟩
      · by_cases hb : b = a
        · subst hb
          rw [upd_same]; rw [hN.out] at e; exact e
        · rw [upd_ne hb]; exact hrest b u hb e
      · exact hC.updo (Ne.symm pa) fun z hz e => by have := hnew.2 z hz; rw [e, hN.out] at this; cases this
/-! ### what lines joined come to -/
def sp_jdue (K : PySem.W.Frag) : Sp := fun vs H Q _ => ∃ (a b : Addr) (bs : Outer) (f : Str → L2.Row) (xs : List V) (ls : List Ln), vs = [.ref a, .ref b] ∧ NetAt H a bs f ∧ RowsIn (bs.map (·.1)) f ∧ bs.length ≤ 12 ∧ SqL K H b xs ∧ Reps K H xs (ls.map lineD) ∧ Ends2 (bs.map (·.1)) ls ∧
  ∀ p H', NS0 H p (bs.map (·.1)) (joinsF f ls) H' → Q (.ref p) H'
theorem ok_l_joined_due (T : Txt K mg t) : FnOk P w K mg base CX0 2 t.l_joined_due t.fd_l_joined_due ["_law_net_here", "_law_lines"] (sp_jdue K) := by
  refine T.f_l_joined_due.fn.ok sc_l_joined_due (fun vs H Q E h => ?_) (fun cdv A outer s H vs Q E hr h => ?_)
  · obtain ⟨a, b, bs, f, xs, ls, rfl, _⟩ := h; rfl
  · obtain ⟨a, b, bs, f, xs, ls, rfl, hN, hg, hlen, hB, hRp, hen, q⟩ := h
    have hu := hu_of hr
    refine ⟨_, (pss_cons (ps_set (i := 2) sc_l_joined_due.nd rfl (Or.inl rfl) (pe_call (ok_l_copied T) (hr.mono (by decide)) rfl T.f_l_copied.mg T.f_l_copied.kp T.f_l_copied.bd .nil pass0 (pa_cons (pv 0) pa_nil)))
      (pss_cons (ps_for PassesOwn.never rfl (pi_list (pv 1)) (pg_tup rfl (pgs_cons (pg_name (i := 3) sc_l_joined_due.nd rfl (Or.inl rfl)) (pgs_cons (pg_name (i := 4) sc_l_joined_due.nd rfl (Or.inl rfl)) (pgs_cons (pg_name (i := 5) sc_l_joined_due.nd rfl (Or.inl rfl)) pgs_nil))))
        (pss_cons (ps_dput hu (pe_dget hu (pv 2) (pv 3) (fun _ _ => rfl)) (pv 4) (pe_op op_add (pe_dget2 hu (pe_dget hu (pv 2) (pv 3) (fun _ _ => rfl)) (pv 4) pe_int ⟨rfl, rfl, rfl, rfl⟩) (pv 5)) rfl)
      (pss_one (ps_dput hu (pe_dget hu (pv 2) (pv 4) (fun _ _ => rfl)) (pv 3) (pe_dget hu (pe_dget hu (pv 2) (pv 3) (fun _ _ => rfl)) (pv 4) (fun _ _ => rfl)) rfl))))
      (pss_one (ps_ret (pv 2))))), ?_⟩
    refine ⟨_, rfl, a, bs, f, rfl, hN, hlen, fun p H1 hNS => ?_⟩
    obtain ⟨cs, S1, hC, hcs, hnew⟩ := hNS
    generalize hks : bs.map (·.1) = ks at hg hen q hcs
    have hkl : ks.length ≤ 12 := by rw [← hks, List.length_map]; exact hlen
    refine ⟨_, rfl, b, rfl, ⟨_, S1.seq hB⟩, for_list (xs := xs) (fun i σ H3 => ∃ x3 x4 x5, σ = [some (.ref a), some (.ref b), some (.ref p), x3, x4, x5] ∧ Same H H3 ∧ NetAt H3 p cs (joinsF f (ls.take i))) ⟨_, _, _, rfl, S1, hC⟩ (fun i σ H3 _ pv => ?_) (fun i x σ H3 hx pv => ?_) (fun σ H3 pv => ?_)⟩
    · obtain ⟨_, _, _, rfl, hS3, _⟩ := pv; exact hS3.seq hB
    · obtain ⟨x3, x4, x5, rfl, hS3, hN3⟩ := pv
      obtain ⟨l, tt, hl, rfl, hT⟩ := (hRp.sm hS3.sm).line hx
      obtain ⟨l1, l2, l3⟩ := hen l (List.mem_of_getElem? hl)
      obtain ⟨b1, hb1⟩ := addrOf_some (bs := cs) (x := l.1) (by rw [hcs]; exact l1)
      obtain ⟨b2, hb2⟩ := addrOf_some (bs := cs) (x := l.2.1) (by rw [hcs]; exact l2)
      have hrows := hg.joins (hen.take i)
      have rl : ∀ x, x ∈ ks → (joinsF f (ls.take i) x).length < sizeLine := fun x hx => szl (by have := hrows.len hx; omega)
      rw [joinsF_succ hl]
      generalize joinsF f (ls.take i) = g at hN3 rl
      refine ⟨tt, _, rfl, hT, rfl, _, _, rfl, _, _, rfl, _, _, rfl, rfl, ?_⟩
      obtain ⟨p1, p2⟩ := hN3.put hb1 ((look (g l.1) l.2.1).getD 0 + l.2.2) l.2.1 (rl _ l1)
      refine ⟨_, rfl, _, rfl, p, _, rfl, hN3.r.dget hb1, b1, rfl, .inl ⟨_, hN3.r.inn _ (addrOf_mem hb1)⟩, _, rfl, _, hN3.r.rget hb1, _, rfl, _, _, optget _, rfl, _, rfl, _, rfl, p, _, rfl, hN3.r.dget hb1, _, rfl, b1, _, rfl, p1, ?_⟩
      obtain ⟨p3, p4⟩ := p2.put hb2 ((look (g l.1) l.2.1).getD 0 + l.2.2) l.1 (by rw [putR_ne (Ne.symm l3)]; exact rl _ l2)
      have hlk : look (putR g l.1 l.2.1 ((look (g l.1) l.2.1).getD 0 + l.2.2) l.1) l.2.1 = some ((look (g l.1) l.2.1).getD 0 + l.2.2) := by rw [putR_at, look_put, if_pos rfl]
      refine ⟨_, rfl, _, rfl, p, _, rfl, p2.r.dget hb1, _, rfl, b1, _, rfl, p2.r.rget' hb1 hlk, _, rfl, _, rfl, p, _, rfl, p2.r.dget hb2, _, rfl, b2, _, rfl, p3, ?_⟩
      refine ⟨_, _, _, rfl, ?_, p4⟩
      exact Same.netput (Same.netput hS3 hnew hb1) hnew hb2
    · obtain ⟨x3, x4, x5, rfl, hS3, hN3⟩ := pv
      rw [hRp.length, List.length_map, List.take_of_length_le (Nat.le_refl _)] at hN3
      exact ⟨_, rfl, q p H3 ⟨cs, hS3, hN3, hcs, hnew⟩⟩
/-! ### what is left without lines, or the first that is no line -/
def sp_ldue (K : PySem.W.Frag) : Sp := fun vs H Q _ => ∃ (a b : Addr) (bs : Outer) (f : Str → L2.Row) (xs : List V) (ps : List Pr), vs = [.ref a, .ref b] ∧ NetAt H a bs f ∧ GN (bs.map (·.1)) f ∧ bs.length ≤ 12 ∧ SqL K H b xs ∧ Reps K H xs (ps.map pairD) ∧
  ∀ v H', Same H H' → ResV H H' (bs.map (·.1)) (cutsF f ps) (ps.find? (badP (bs.map (·.1)) f)) v → Q v H'
theorem ok_l_less_due (T : Txt K mg t) : FnOk P w K mg base CX0 2 t.l_less_due t.fd_l_less_due ["_law_net_here", "_law_lines"] (sp_ldue K) := by
  refine T.f_l_less_due.fn.ok sc_l_less_due (fun vs H Q E h => ?_) (fun cdv A outer s H vs Q E hr h => ?_)
  · obtain ⟨a, b, bs, f, xs, ps, rfl, _⟩ := h; rfl
  · obtain ⟨a, b, bs, f, xs, ps, rfl, hN, hg, hlen, hB, hRp, q⟩ := h
    have q1 : ps.find? (badP (bs.map (·.1)) f) = none → ∀ p H', NS0 H p (bs.map (·.1)) (cutsF f ps) H' → Q (.ref p) H' := fun hf p H' hNS => q _ _ hNS.same (by rw [hf]; exact ⟨p, rfl, hNS⟩)
    have q2 : ∀ pr, ps.find? (badP (bs.map (·.1)) f) = some pr → ∀ p H', Same H H' → H p = none → H' p = some (.tup [.str pr.1, .str pr.2]) → Q (.ref p) H' := fun pr hf p H' hS hp hp' => q _ _ hS (by rw [hf]; exact ⟨p, rfl, hp, hp'⟩)
    clear q
    have hu := hu_of hr
    have hxl : xs.length = ps.length := by rw [hRp.length, List.length_map]
    refine ⟨_, (pss_cons (ps_set (i := 2) sc_l_less_due.nd rfl (Or.inl rfl) (pe_call (ok_l_copied T) (hr.mono (by decide)) rfl T.f_l_copied.mg T.f_l_copied.kp T.f_l_copied.bd .nil pass0 (pa_cons (pv 0) pa_nil)))
      (pss_cons (ps_for PassesOwn.never rfl (pi_list (pv 1)) (pg_tup rfl (pgs_cons (pg_name (i := 3) sc_l_less_due.nd rfl (Or.inl rfl)) (pgs_cons (pg_name (i := 4) sc_l_less_due.nd rfl (Or.inl rfl)) pgs_nil)))
        (pss_one (ps_if (PW.pt (pw_or (pt_cmp (pc_dnotin hu (pv 3) (pv 0))) (pw_or1 (pt_cmp (pc_dnotin hu (pv 4) (pe_dget hu (pv 0) (pv 3) (fun _ _ => rfl)))))))
        (pss_one (ps_ret (pe_tup (pa_cons (pv 3) (pa_cons (pv 4) pa_nil)))))
        pss_nil)))
      (pss_cons (ps_for PassesOwn.never rfl (pi_list (pv 1)) (pg_tup rfl (pgs_cons (pg_name (i := 3) sc_l_less_due.nd rfl (Or.inl rfl)) (pgs_cons (pg_name (i := 4) sc_l_less_due.nd rfl (Or.inl rfl)) pgs_nil)))
        (pss_cons (ps_expr (pe_dpopU (pe_dget hu (pv 2) (pv 3) (fun _ _ => rfl)) (pv 4) pe_non ⟨rfl, rfl, rfl, rfl⟩))
      (pss_one (ps_expr (pe_dpopU (pe_dget hu (pv 2) (pv 4) (fun _ _ => rfl)) (pv 3) pe_non ⟨rfl, rfl, rfl, rfl⟩)))))
      (pss_one (ps_ret (pv 2)))))), ?_⟩
    refine ⟨_, rfl, a, bs, f, rfl, hN, hlen, fun p H1 hNS => ?_⟩
    obtain ⟨cs, S1, hC, hcs, hnew⟩ := hNS
    generalize hks : bs.map (·.1) = ks at hg q1 q2 hcs
    refine ⟨_, rfl, b, rfl, ⟨_, S1.seq hB⟩, for_list (xs := xs) (fun i σ H3 => ∃ x3 x4, σ = [some (.ref a), some (.ref b), some (.ref p), x3, x4] ∧ H3 = H1 ∧ (ps.take i).find? (badP ks f) = none) ⟨_, _, rfl, rfl, rfl⟩ (fun i σ H3 _ pv => ?_) (fun i x σ H3 hx pv => ?_) (fun σ H3 pv => ?_)⟩
    · obtain ⟨_, _, rfl, rfl, _⟩ := pv; exact S1.seq hB
    · obtain ⟨x3, x4, rfl, rfl, hfind⟩ := pv
      obtain ⟨pr, tt, hl, rfl, hT⟩ := (hRp.sm S1.sm).pair hx
      have hN1 := (hN.same S1).r
      refine ⟨tt, _, rfl, hT, rfl, _, _, rfl, _, _, rfl, rfl, ?_⟩
      refine ⟨_, rfl, _, rfl, a, _, rfl, hN1.dhas, _, rfl, ?_⟩
      by_cases hx1 : pr.1 ∈ ks
      · obtain ⟨b1, hb1⟩ := addrOf_some (bs := bs) (x := pr.1) (hks ▸ hx1)
        rw [hb1]
        refine iteF ⟨_, rfl, _, rfl, _, rfl, a, _, rfl, hN1.dget hb1, b1, _, rfl, hN1.rget hb1, _, rfl, ?_⟩
        cases hv : look (f pr.1) pr.2 with
        | none =>
          have hb : badP ks f pr = true := by unfold badP; rw [hv]; simp
          exact iteT ⟨_, rfl, _, rfl, (by show 2 ≤ sizeLine; decide), fun r hr' => q2 pr (find_first hfind hl hb) r _ (S1.trans (Same.updN hr')) (S1.free hr') upd_same⟩
        | some v =>
          have hb : badP ks f pr = false := by unfold badP; rw [hv, decide_eq_true hx1]; rfl
          refine iteF ⟨_, _, rfl, rfl, ?_⟩
          rw [List.take_add_one, hl, List.find?_append, hfind]
          simp [hb]
      · rw [addrOf_none.mpr (hks ▸ hx1)]
        have hb : badP ks f pr = true := by unfold badP; rw [decide_eq_false hx1]; simp
        exact iteT (iteT ⟨_, rfl, _, rfl, (by show 2 ≤ sizeLine; decide), fun r hr' => q2 pr (find_first hfind hl hb) r _ (S1.trans (Same.updN hr')) (S1.free hr') upd_same⟩)
    · obtain ⟨x3, x4, rfl, rfl, hfind⟩ := pv
      rw [hxl, List.take_of_length_le (Nat.le_refl _)] at hfind
      refine ⟨_, rfl, b, rfl, ⟨_, S1.seq hB⟩, for_list (xs := xs) (fun i σ H4 => ∃ x3 x4, σ = [some (.ref a), some (.ref b), some (.ref p), x3, x4] ∧ Same H H4 ∧ NetAt H4 p cs (cutsF f (ps.take i))) ⟨_, _, rfl, S1, hC⟩ (fun i σ H4 _ pv => ?_) (fun i x σ H4 hx pv => ?_) (fun σ H4 pv => ?_)⟩
      · obtain ⟨_, _, rfl, hS4, _⟩ := pv; exact hS4.seq hB
      · obtain ⟨x3, x4, rfl, hS4, hN4⟩ := pv
        obtain ⟨pr, tt, hl, rfl, hT⟩ := (hRp.sm hS4.sm).pair hx
        have hgood : badP ks f pr = false := by
          cases hb : badP ks f pr with
          | false => rfl
          | true => exact absurd hb (List.find?_eq_none.mp hfind pr (List.mem_of_getElem? hl))
        have hx1 : pr.1 ∈ ks := by
          by_cases c : pr.1 ∈ ks
          · exact c
          · unfold badP at hgood; rw [decide_eq_false c] at hgood; simp at hgood
        have hx2 : pr.2 ∈ ks := by
          unfold badP at hgood
          rw [decide_eq_true hx1] at hgood
          cases hv : look (f pr.1) pr.2 with
          | none => rw [hv] at hgood; simp at hgood
          | some v =>
            obtain ⟨B, _, g⟩ := hg
            exact (g.val _ _ _ hx1 hv).1
        obtain ⟨b1, hb1⟩ := addrOf_some (bs := cs) (x := pr.1) (by rw [hcs]; exact hx1)
        obtain ⟨b2, hb2⟩ := addrOf_some (bs := cs) (x := pr.2) (by rw [hcs]; exact hx2)
        rw [cutsF_succ hl]
        generalize cutsF f (ps.take i) = g at hN4
        refine ⟨tt, _, rfl, hT, rfl, _, _, rfl, _, _, rfl, rfl, ?_⟩
        have p2 := cut_row hN4 hb1 pr.2
        refine ⟨_, rfl, _, rfl, p, _, rfl, hN4.r.dget hb1, b1, rfl, .inl ⟨_, hN4.r.inn _ (addrOf_mem hb1)⟩, _, rfl, encI (g pr.1), Sum.inr pr.2, hN4.inn _ (addrOf_mem hb1), rfl, fun _ => ?_⟩
        have p4 := cut_row p2 hb2 pr.1
        refine ⟨_, rfl, _, rfl, p, _, rfl, p2.r.dget hb2, b2, rfl, .inl ⟨_, p2.r.inn _ (addrOf_mem hb2)⟩, _, rfl, encI (dropR g pr.1 pr.2 pr.2), Sum.inr pr.1, p2.inn _ (addrOf_mem hb2), rfl, fun _ => ?_⟩
        exact ⟨_, _, rfl, Same.netput (Same.netput hS4 hnew hb1) hnew hb2, p4⟩
      · obtain ⟨x3, x4, rfl, hS4, hN4⟩ := pv
        rw [hxl, List.take_of_length_le (Nat.le_refl _)] at hN4
        exact ⟨_, rfl, q1 hfind p H4 ⟨cs, hS4, hN4, hcs, hnew⟩⟩
/-! ### what the program tells, or the line that it refuses -/
def sp_less (K : PySem.W.Frag) : Sp := fun vs H Q _ => ∃ (a b : Addr) (bs : Outer) (f : Str → L2.Row) (xs : List V) (ps : List Pr), vs = [.ref a, .ref b] ∧ NetR H a bs f ∧ GN (bs.map (·.1)) f ∧ bs.length ≤ 12 ∧ SqL K H b xs ∧ Reps K H xs (ps.map pairD) ∧ ps.length ≤ 100 ∧
  ∀ v H', Same H H' → ResV H H' (sortS (bs.map (·.1))) (joinsF (fun _ => []) ((linesF (bs.map (·.1)) f).filter (keepL ps))) (ps.find? (badP (bs.map (·.1)) f)) v → Q v H'
theorem ok_l_less (T : Txt K mg t) : FnOk P w K mg base CX0 4 t.l_less t.fd_l_less ["_law_net_here", "_law_lines"] (sp_less K) := by
  refine T.f_l_less.fn.ok sc_l_less (fun vs H Q E h => ?_) (fun cdv A outer s H vs Q E hr h => ?_)
  · obtain ⟨a, b, bs, f, xs, ps, rfl, _⟩ := h; rfl
  · obtain ⟨a, b, bs, f, xs, ps, rfl, hN, hg, hlen, hB, hRp, hpl, q⟩ := h
    have q1 : ps.find? (badP (bs.map (·.1)) f) = none → ∀ p H', NS0 H p (sortS (bs.map (·.1))) (joinsF (fun _ => []) ((linesF (bs.map (·.1)) f).filter (keepL ps))) H' → Q (.ref p) H' := fun hf p H' hNS => q _ _ hNS.same (by rw [hf]; exact ⟨p, rfl, hNS⟩)
    have q2 : ∀ pr, ps.find? (badP (bs.map (·.1)) f) = some pr → ∀ p H', Same H H' → H p = none → H' p = some (.tup [.str pr.1, .str pr.2]) → Q (.ref p) H' := fun pr hf p H' hS hp hp' => q _ _ hS (by rw [hf]; exact ⟨p, rfl, hp, hp'⟩)
    clear q
    refine ⟨_, (pss_cons (ps_set (i := 2) sc_l_less.nd rfl (Or.inl rfl) pe_non)
      (pss_cons (ps_tryA (i := 2) (ok_net_less T) (hr.mono (by decide)) T.f_net_less.bd rfl rfl sc_l_less.nd rfl rfl rfl T.f_net_less.mg T.f_net_less.kp (pa_cons (pv 0) (pa_cons (pv 1) pa_nil))
          (ph_hit (i := 3) sc_l_less.nd rfl rfl rfl T.x_NoLine.mg T.x_NoLine.get.mr T.x_NoLine.get.be (fun x => (pss_cons (ps_set (i := 2) sc_l_less.nd rfl (Or.inl rfl) (pe_tup (pa_cons (pe_xgetK (K := K) rfl (pv 3) rfl) (pa_cons (pe_xgetK (K := K) rfl (pv 3) rfl) pa_nil))))
      (pss_one (ps_if (PW.pt (pw_or (pt_not (pt_val (pe_callB (call_isiXK (K := K) rfl) (by rfl) T.b_isinstance boot_isinstance' (pa_cons (pv 3) (pa_cons (pe_glob (v := .ref t.NetError) rfl T.m_NetError rfl) pa_nil))))) (pw_or (pt_val (pe_callB (call_isiXK (K := K) rfl) (by rfl) T.b_isinstance boot_isinstance' (pa_cons (pv 3) (pa_cons (pe_glob (v := .ref t.NoPlace) rfl T.m_NoPlace rfl) pa_nil)))) (pw_or1 (pt_val (pe_callB (call_isiXK (K := K) rfl) (by rfl) T.b_isinstance boot_isinstance' (pa_cons (pv 3) (pa_cons (pe_glob (v := .ref t.OldLine) rfl T.m_OldLine rfl) pa_nil))))))))
        (pss_one (ps_set (i := 2) sc_l_less.nd rfl (Or.inl rfl) pe_non))
        pss_nil)))) ph_nil))
      (pss_one (ps_ret (pv 2))))), ?_⟩
    refine ⟨_, rfl, _, rfl, a, b, bs, f, xs, ps, rfl, hN, hg, hlen, hB, hRp, hpl, (fun hf p H' hNS => ⟨_, rfl, q1 hf p H' hNS⟩), (fun pr hf x dx fs H' hS hx hdx hne e1 e2 l1 l2 => ?_)⟩
    refine ⟨x, t.NoLine, rfl, e1, _, T.x_NoLine.get.mr, (fun _ => ?_), (fun z => absurd z (by simp))⟩
    refine ⟨_, rfl, x, t.NoLine, _, dx, fs, _, rfl, T.x_NoLine.get, T.na_NoLine_one, e1, e2, hne, l1, _, rfl, x, t.NoLine, _, dx, fs, _, rfl, T.x_NoLine.get, T.na_NoLine_other, e1, e2, hne, l2, (by show 2 ≤ sizeLine; decide), fun p hp => ?_⟩
    have e1' : (upd H' p (.tup [.str pr.1, .str pr.2])) x = some (.ext (ExcAt x t.NoLine (some dx))) := by rw [upd_ne (ne_of_none e1 hp)]; exact e1
    refine ⟨_, rfl, x, t.NoLine, _, _, t.NetError, true, rfl, T.x_NoLine.get, e1', T.k_NoLine_NetError, _, rfl, iteF ?_⟩
    refine ⟨_, rfl, x, t.NoLine, _, _, t.NoPlace, false, rfl, T.x_NoLine.get, e1', T.k_NoLine_NoPlace, _, rfl, iteF ?_⟩
    refine ⟨_, rfl, x, t.NoLine, _, _, t.OldLine, false, rfl, T.x_NoLine.get, e1', T.k_NoLine_OldLine, _, rfl, iteF ?_⟩
    exact ⟨_, rfl, q2 pr hf p _ (hS.upd (hS.free hp)) (hS.free hp) upd_same⟩
end
end K05

set_option Elab.async false
set_option linter.all false
set_option maxRecDepth 100000
set_option maxHeartbeats 4000000
namespace K05
open PySem L2 PySem.Spec PyProof.Rows
section
variable {P : Program} {w : World} {K : PySem.W.Frag} {mg : Str → Option Value} {base : Heap} {t : Adr}
/-! ### some lines, there or not -/
def sp_some (K : PySem.W.Frag) : Sp := fun vs H Q _ => ∃ (a : Addr) (c : Int) (bs : Outer) (f : Str → L2.Row), vs = [.ref a, .int c] ∧ NetR H a bs f ∧ RowsIn (bs.map (·.1)) f ∧ bs.length ≤ 12 ∧
  ∀ p H' ps, Same H H' → H p = none → PairsAt K H' p ps → ps.length ≤ 3 → Q (.ref p) H'
theorem ok_l_some_lines (T : Txt K mg t) : FnOk P w K mg base CX0 2 t.l_some_lines t.fd_l_some_lines ["_law_net_here", "_law_cell"] (sp_some K) := by
  refine T.f_l_some_lines.fn.ok sc_l_some_lines (fun vs H Q E h => ?_) (fun cdv A outer s H vs Q E hr h => ?_)
  · obtain ⟨a, c, bs, f, rfl, _⟩ := h; rfl
  · obtain ⟨a, c, bs, f, rfl, hN, hg, hlen, q⟩ := h
    have hu := hu_of hr
    have hu1 : (A.deeper _).units < cLine := Nat.lt_of_succ_lt (hu_of hr)
    generalize hks : bs.map (·.1) = ks at hg
    have hkl : ks.length ≤ 12 := by rw [← hks, List.length_map]; exact hlen
    refine ⟨_, (pss_cons (ps_set (i := 2) sc_l_some_lines.nd rfl (Or.inl rfl) (pe_lst pa_nil))
      (pss_cons (ps_for PassesOwn.never rfl (pi_list (pe_callB call_sortedD (by rfl) T.b_sorted boot_sorted (pa_cons (pv 0) pa_nil))) (pg_name (i := 3) sc_l_some_lines.nd rfl (Or.inr rfl))
        (pss_one (ps_set (i := 2) sc_l_some_lines.nd rfl (Or.inl rfl) (pe_op op_cat (pv 2) (pe_comp ["_law_other"] [3] rfl (pi_list (pe_callB call_sortedD (by rfl) T.b_sorted boot_sorted (pa_cons (pe_dget hu (pv 0) (pv 3) (fun _ _ => rfl)) pa_nil))) (fun _ _ _ _ _ => (pg_name (i := 0) (show (["_law_other", "_law_one"] : List Str).Nodup by decide +kernel) rfl (Or.inl rfl))) (fun _ _ _ _ _ => pif_nil) (fun _ _ _ _ _ => (pe_tup (pa_cons (pv 1) (pa_cons (pv 0) pa_nil)))) ⟨⟨_, rfl, rfl, .inl rfl⟩, trivial⟩ (hfr := by show ∀ y ∈ (_ : List (Str × NameKind)), y.2 = NameKind.free → (defScope s_l_some_lines).names.lookup y.1 = some NameKind.cell ∨ (defScope s_l_some_lines).names.lookup y.1 = some NameKind.free; decide +kernel))))))
      (pss_cons (ps_set (i := 4) sc_l_some_lines.nd rfl (Or.inl rfl) (pe_op op_cat (pe_callB call_sortedD (by rfl) T.b_sorted boot_sorted (pa_cons (pv 0) pa_nil)) (pe_lst (pa_cons pe_str pa_nil))))
      (pss_cons (ps_set (i := 5) sc_l_some_lines.nd rfl (Or.inl rfl) (pe_lst pa_nil))
      (pss_cons (ps_for PassesOwn.never rfl (pi_range1 rfl T.b_range (pa_cons (pe_op op_mod (pv 1) pe_int) pa_nil)) (pg_name (i := 6) sc_l_some_lines.nd rfl (Or.inl rfl))
        (pss_cons (ps_set (i := 7) sc_l_some_lines.nd rfl (Or.inl rfl) (pe_call (ok_l_mix T) (hr.mono (by decide)) rfl T.f_l_mix.mg T.f_l_mix.kp T.f_l_mix.bd .nil pass0 (pa_cons (pv 1) (pa_cons (pe_op op_add pe_int (pv 6)) pa_nil))))
      (pss_cons (ps_if (pt_cmpR op_eq (pe_op op_mod (pe_op op_fdiv (pv 1) pe_int) pe_int) pe_int (nomark _))
        (pss_one (ps_set (i := 7) sc_l_some_lines.nd rfl (Or.inl rfl) (pe_op op_fdiv (pe_op op_fdiv (pv 1) pe_int) (pe_ix ix_list (pe_lst (pa_cons pe_int (pa_cons (pe_op op_pow pe_int pe_int) (pa_cons (pe_op op_pow pe_int pe_int) pa_nil)))) (pv 6) (fun _ _ => rfl)))))
        pss_nil)
      (pss_one (ps_if (PW.pt (pw_and (pt_cmpR (op_ne0 hu1) (pv 2) (pe_lst pa_nil) (nomark _)) (pw_and1 (pt_cmpR op_gt (pe_op op_mod (pv 7) pe_int) pe_int (nomark _)))))
        (pss_one (ps_expr (pe_bm PySem.F.plainAttrs_list PySem.F.slot_list_append PySem.F.type_list_append mt_append (pv 5) (pa_cons (pe_ix ix_list (pv 2) (pe_op op_mod (pe_op op_fdiv (pv 7) pe_int) (pe_callB call_len (by rfl) T.b_len boot_len' (pa_cons (pv 2) pa_nil))) (fun _ _ => rfl)) pa_nil))))
        (pss_one (ps_expr (pe_bm PySem.F.plainAttrs_list PySem.F.slot_list_append PySem.F.type_list_append mt_append (pv 5) (pa_cons (pe_tup (pa_cons (pe_ix ix_list (pv 4) (pe_op op_mod (pe_op op_fdiv (pv 7) pe_int) (pe_callB call_len (by rfl) T.b_len boot_len' (pa_cons (pv 4) pa_nil))) (fun _ _ => rfl)) (pa_cons (pe_ix ix_list (pv 4) (pe_op op_mod (pe_op op_fdiv (pv 7) pe_int) (pe_callB call_len (by rfl) T.b_len boot_len' (pa_cons (pv 4) pa_nil))) (fun _ _ => rfl)) pa_nil))) pa_nil)))))))))
      (pss_one (ps_ret (pv 5)))))))), ?_⟩
    refine ⟨(by decide), fun t0 ht0 => ?_⟩
    have S1 := Same.updN (o := .lst []) ht0
    refine ⟨_, rfl, rfl, a, _, ks, rfl, (hN.sm S1.sm).out, hks ▸ hN.keys, by omega, fun r hr' => ⟨r, rfl, ⟨_, SqL.of upd_same⟩, ?_⟩⟩
    have t0r : t0 ≠ r := fun e => by rw [← e, upd_same] at hr'; cases hr'
    have S2 := S1.trans (Same.updN (o := .lst ((sortS ks).map V.str)) hr')
    refine for_list (xs := (sortS ks).map V.str) (fun i σ H2 => ∃ x3 tp ps, σ = [some (.ref a), some (.int c), some (.ref tp), x3, none, none, none, none] ∧ Same H H2 ∧ H2 r = some (.lst ((sortS ks).map V.str)) ∧ PairsAt K H2 tp ps ∧ ps.length ≤ 12 * i) ?_ (fun i σ H2 hi pv => ?_) (fun i x σ H2 hx pv => ?_) (fun σ H2 pv => ?_)
    · exact ⟨_, t0, [], rfl, S2, upd_same, ⟨[], by rw [upd_ne t0r, upd_same], .nil⟩, Nat.le_refl _⟩
    · obtain ⟨_, _, _, rfl, _, hR, _⟩ := pv
      exact SqL.of hR
    · obtain ⟨x3, tp, ps, rfl, hS, hR, ⟨zs, hz1, hz2⟩, hpl⟩ := pv
      have hzl : zs.length = ps.length := by rw [hz2.length, List.length_map]
      rw [List.getElem?_map] at hx
      cases hk : (sortS ks)[i]? with
      | none => rw [hk] at hx; cases hx
      | some k =>
      rw [hk] at hx
      cases hx
      have hi' : i < 12 := by
        have := (List.getElem?_eq_some_iff.mp hk).1
        rw [sortS_len] at this
        omega
      have hkm : k ∈ ks := mem_sortS.mp (List.mem_of_getElem? hk)
      have hNr := hN.sm hS.sm
      obtain ⟨b, hb, hbr⟩ := hNr.row (x := k) (hks ▸ hkm)
      have hrow : ((f k).map (·.1)).length ≤ ks.length := nd_len (hg.nd k hkm) (hg.inn k hkm)
      refine ⟨_, rfl, _, rfl, _, rfl, a, .ref b, rfl, hNr.dget hb, rfl, b, _, (f k).map (·.1), rfl, hbr, keysS_encI _, by omega, fun r2 hr2 => ⟨r2, rfl, ⟨_, SqL.of upd_same⟩, ?_⟩⟩
      have T1 := hS.trans (Same.updN (o := .lst ((sortS ((f k).map (·.1))).map V.str)) hr2)
      generalize hH3 : upd H2 r2 (.lst ((sortS ((f k).map (·.1))).map V.str)) = H3 at T1
      have hr3 : H3 r2 = some (.lst ((sortS ((f k).map (·.1))).map V.str)) := by rw [← hH3, upd_same]
      have S23 : Same H2 H3 := by rw [← hH3]; exact Same.updN hr2
      refine comp_inv (sortS ((f k).map (·.1))).length (fun j ys H4 => Same H3 H4 ∧ ys.length = j ∧ j ≤ 12 ∧ Reps K H4 ys ((((sortS ((f k).map (·.1))).take j).map fun y => (k, y)).map pairD)) ⟨Same.refl _, rfl, Nat.zero_le _, .nil⟩ (fun j ys H4 pv => szl (by omega)) (fun j ys H4 hj pv => ?_) (fun ys H4 pv => ?_)
      · obtain ⟨S4, hyl, _, hys⟩ := pv
        have hj12 : j < 12 := by rw [sortS_len] at hj; omega
        obtain ⟨y, hy⟩ : ∃ y, (sortS ((f k).map (·.1)))[j]? = some y := ⟨_, List.getElem?_eq_getElem hj⟩
        refine ⟨⟨_, .str y, SqL.of (S4 _ _ hr3), by rw [List.getElem?_map, hy]; rfl⟩, ?_⟩
        rintro v H5 ⟨rfl, hv⟩
        have hv := hv _ (SqL.of (S4 _ _ hr3))
        rw [List.getElem?_map, hy] at hv
        cases hv
        simp only [gName, tYes, ↓reduceIte]
        refine ⟨_, rfl, _, rfl, (by show 2 ≤ sizeLine; decide), fun tt ht => nxC hj ⟨S4.trans (Same.updN ht), by simp [hyl], by omega, ?_⟩⟩
        rw [List.take_add_one, hy, List.map_append, List.map_append]
        refine (hys.sm (Same.updN ht).sm).append (.one (.tup (SqT.of upd_same) (.cons (.str _) (.cons (.str _) .nil))))
      · obtain ⟨S4, hyl, _, hys⟩ := pv
        rw [List.take_of_length_le (Nat.le_refl _)] at hys
        refine ⟨⟨_, SqL.of (S4 _ _ hr3), by rw [List.length_map]; exact Nat.le_refl _⟩, fun l1 hl1 => ?_⟩
        have hz4 : (upd H4 l1 (.lst ys)) tp = some (.lst zs) := ((S23.trans S4).trans (Same.updN hl1)) _ _ hz1
        refine ⟨tp, l1, zs, ys, rfl, rfl, hz4, upd_same, sz (by omega), fun l2 hl2 => ?_⟩
        have S6 := (Same.updN (o := .lst ys) hl1).trans (Same.updN (o := .lst (zs ++ ys)) hl2)
        refine ⟨_, l2, ps ++ (sortS ((f k).map (·.1))).map (fun y => (k, y)), rfl, (T1.trans S4).trans S6, ((S23.trans S4).trans S6) _ _ hR, ⟨zs ++ ys, upd_same, ?_⟩, ?_⟩
        · rw [List.map_append]
          exact (hz2.sm ((S23.trans S4).trans S6).sm).append (hys.sm S6.sm)
        · rw [List.length_append, List.length_map, sortS_len]; omega
    · obtain ⟨x3, tp, ps, rfl, hS, hR, ⟨zs, hz1, hz2⟩, hpl⟩ := pv
      rw [List.length_map, sortS_len] at hpl
      have hzl : zs.length = ps.length := by rw [hz2.length, List.length_map]
      refine ⟨_, rfl, rfl, a, _, ks, rfl, (hN.sm hS.sm).out, hks ▸ hN.keys, by omega, fun r3 hr3 => ⟨(by show 1 ≤ sizeLine; decide), fun r4 hr4 => ?_⟩⟩
      have n34 : r3 ≠ r4 := fun e => by rw [← e, upd_same] at hr4; cases hr4
      refine ⟨r3, r4, (sortS ks).map V.str, [.str "Nobody"], rfl, rfl, (by rw [upd_ne n34, upd_same]), upd_same, sz (by rw [List.length_map, sortS_len]; show _ + 1 ≤ _; omega), fun np hnp => ?_⟩
      have S5 := ((hS.trans (Same.updN (o := .lst ((sortS ks).map V.str)) hr3)).trans (Same.updN (o := .lst [.str "Nobody"]) hr4)).trans (Same.updN (o := .lst ((sortS ks).map V.str ++ [.str "Nobody"])) hnp)
      have S25 := ((Same.updN (o := .lst ((sortS ks).map V.str)) hr3).trans (Same.updN (o := .lst [.str "Nobody"]) hr4)).trans (Same.updN (o := .lst ((sortS ks).map V.str ++ [.str "Nobody"])) hnp)
      have en : (sortS ks).map V.str ++ [.str "Nobody"] = (sortS ks ++ [("Nobody" : Str)]).map V.str := by rw [List.map_append]; rfl
      rw [en] at S5 S25 ⊢
      generalize hns : sortS ks ++ [("Nobody" : Str)] = ns at S5 S25
      have hnl : ns.length = ks.length + 1 := by rw [← hns, List.length_append, sortS_len]; rfl
      generalize hH5 : upd (upd (upd H2 r3 (.lst ((sortS ks).map V.str))) r4 (.lst [.str "Nobody"])) np (.lst (ns.map V.str)) = H5 at S5 S25
      have hnp5 : H5 np = some (.lst (ns.map V.str)) := by rw [← hH5, upd_same]
      have hz5 := S25 _ _ hz1
      have hR5 := hz2.sm S25.sm
      refine ⟨(by decide), fun fp hfp => ?_⟩
      have S6 := S5.trans (Same.updN (o := .lst []) hfp)
      have c1 := Int.emod_nonneg c (show (4 : Int) ≠ 0 by decide)
      have c2 := Int.emod_lt_of_pos c (show (0 : Int) < 4 by decide)
      have hf0 : H5 fp = none := hfp
      refine ⟨_, rfl, _, _, rfl, rfl, (by show (0 : Int) < 4; decide), _, rfl, by omega, by omega, for_range (n := (c % 4).toNat) (fun i σ H6 => ∃ x6 x7 xs qs, σ = [some (.ref a), some (.int c), some (.ref tp), x3, some (.ref np), some (.ref fp), x6, x7] ∧ Same H5 H6 ∧ H6 fp = some (.lst xs) ∧ Reps K H6 xs (qs.map pairD) ∧ qs.length = i) ⟨_, _, [], [], rfl, Same.updN hfp, upd_same, .nil, rfl⟩ (fun i σ H6 hi pv => ?_) (fun σ H6 pv => ?_)⟩
      · obtain ⟨x6, x7, xs, qs, rfl, hS6, hF, hQ, hql⟩ := pv
        have hxl : xs.length = qs.length := by rw [hQ.length, List.length_map]
        have hi3 : i < 3 := by omega
        simp only [Int.zero_add]
        refine ⟨_, rfl, _, rfl, _, _, rfl, rfl, c, _, rfl, by omega, by omega, ?_⟩
        refine ⟨_, rfl, _, _, rfl, rfl, ⟨by decide, by decide⟩, _, _, rfl, rfl, (by show (0 : Int) < 2; decide), rfl, _, rfl, ?_⟩
        refine ifJ (fun σ H7 => ∃ n : Int, σ = [some (.ref a), some (.int c), some (.ref tp), x3, some (.ref np), some (.ref fp), some (.int i), some (.int n)] ∧ Same H6 H7) (fun σ H7 pv => ?_) (fun _ k => ?_) (fun _ => ⟨_, rfl, Same.refl _⟩)
        · obtain ⟨n, rfl, S7⟩ := pv
          have hF7 : H7 fp = some (.lst xs) := S7 _ _ hF
          have hQ7 := hQ.sm S7.sm
          have T7 := hS6.trans S7
          have hz7 := T7 _ _ hz5
          have hnp7 := T7 _ _ hnp5
          have hR7 := hR5.sm T7.sm
          have fin : ∀ (H8 : Hp) (v : V) (pr : Pr), Same H7 H8 → Rep K H8 v (pairD pr) → ∃ (x6 x7 : Option V) (xs' : List V) (qs' : List Pr), [some (V.ref a), some (.int c), some (.ref tp), x3, some (.ref np), some (.ref fp), some (.int i), some (.int n)] = [some (.ref a), some (.int c), some (.ref tp), x3, some (.ref np), some (.ref fp), x6, x7] ∧ Same H5 (upd H8 fp (.lst (xs ++ [v]))) ∧ (upd H8 fp (.lst (xs ++ [v]))) fp = some (.lst xs') ∧ Reps K (upd H8 fp (.lst (xs ++ [v]))) xs' (qs'.map pairD) ∧ qs'.length = i + 1 := fun H8 v pr S8 rv => by
            refine ⟨_, _, xs ++ [v], qs ++ [pr], rfl, (T7.trans S8).upd hf0, upd_same, ?_, by simp [hql]⟩
            have r1 : Reps K H8 (xs ++ [v]) ((qs ++ [pr]).map pairD) := by
              rw [List.map_append]; exact (hQ7.sm S8.sm).append (.one rv)
            refine Reps.tupsP (fun z zs' hz => ?_) r1
            exact sqT_upd (S8 _ _ hF7) hz
          refine ⟨_, rfl, (by decide), fun e0 he0 => ⟨tp, e0, zs, rfl, rfl, SqL.of (by rw [upd_ne (ne_of_none hz7 he0)]; exact hz7), SqL.of upd_same, _, rfl, ?_⟩⟩
          have S8 := Same.updN (o := .lst []) he0
          generalize upd H7 e0 (.lst []) = H8 at S8
          have hF8 := S8 _ _ hF7
          have hz8 := S8 _ _ hz7
          have hnp8 := S8 _ _ hnp7
          have hR8 := hR7.sm S8.sm
          have m1 : ∀ z : Int, 0 ≤ z % (ns.length : Int) ∧ z % (ns.length : Int) < (ns.map V.str).length := fun z => by
            rw [List.length_map]
            exact ⟨Int.emod_nonneg _ (by omega), Int.emod_lt_of_pos _ (by omega)⟩
          cases zs
          case' nil => refine iteF (iteF ?E1)
          case' cons z0 zt => refine iteT ⟨_, rfl, _, _, rfl, rfl, (by show (0 : Int) < 8; decide), _, _, rfl, rfl, _, rfl, iteD (fun _ => ?T1) (fun _ => ?E2)⟩
          case nil | E2 =>
            obtain ⟨u1, _, _, hu1'⟩ := atI_ix (g := V.str) (l := ns) (i := (n / 8) % (ns.length : Int)) (m1 _).1 (by have := (m1 (n / 8)).2; rwa [List.length_map] at this)
            obtain ⟨u2, _, _, hu2'⟩ := atI_ix (g := V.str) (l := ns) (i := (n / 128) % (ns.length : Int)) (m1 _).1 (by have := (m1 (n / 128)).2; rwa [List.length_map] at this)
            refine ⟨_, rfl, .inl ⟨rfl, _, SqL.of hF8⟩, _, rfl, _, rfl, _, _, rfl, rfl, ⟨by decide, by decide⟩, _, rfl, _, ns.length, rfl, .inl ⟨_, SqL.of hnp8, by rw [List.length_map]⟩, _, _, rfl, rfl, (by show (0 : Int) < _; omega), np, _, _, _, rfl, rfl, SqL.of hnp8, hu1', ?_⟩
            refine ⟨_, rfl, _, rfl, _, _, rfl, rfl, ⟨by decide, by decide⟩, _, rfl, _, ns.length, rfl, .inl ⟨_, SqL.of hnp8, by rw [List.length_map]⟩, _, _, rfl, rfl, (by show (0 : Int) < _; omega), np, _, _, _, rfl, rfl, SqL.of hnp8, hu2', (by show 2 ≤ sizeLine; decide), fun tt ht => ⟨fp, xs, _, rfl, rfl, (by rw [upd_ne (ne_of_none hF8 ht)]; exact hF8), szl (by omega), ?_⟩⟩
            exact fin _ (.ref tt) (u1, u2) (S8.trans (Same.updN ht)) (.tup (SqT.of upd_same) (.cons (.str _) (.cons (.str _) .nil)))
          case T1 =>
            have l0 : (0 : Int) < ((z0 :: zt).length : Int) := by rw [List.length_cons]; omega
            have l1 : 0 ≤ (n / 8) % ((z0 :: zt).length : Int) := Int.emod_nonneg _ (Int.ne_of_gt l0)
            have l2 : (n / 8) % ((z0 :: zt).length : Int) < (z0 :: zt).length := Int.emod_lt_of_pos _ l0
            obtain ⟨v, hv, hv'⟩ := atI_get2 (xs := z0 :: zt) l1 l2
            obtain ⟨d, hd, rv⟩ := hR8.get' hv
            rw [List.getElem?_map] at hd
            cases hpr : ps[((n / 8) % ((z0 :: zt).length : Int)).toNat]? with
            | none => rw [hpr] at hd; cases hd
            | some pr =>
            rw [hpr] at hd
            cases hd
            exact ⟨_, rfl, .inl ⟨rfl, _, SqL.of hF8⟩, _, rfl, _, rfl, _, _, rfl, rfl, ⟨by decide, by decide⟩, _, rfl, _, (z0 :: zt).length, rfl, .inl ⟨_, SqL.of hz8, rfl⟩, _, _, rfl, rfl, l0, tp, _, _, _, rfl, rfl, SqL.of hz8, hv', fp, xs, _, rfl, rfl, hF8, szl (by omega), fin H8 v pr S8 rv⟩
        · have : ∃ v : Int, atI [V.int 1, V.int (10 ^ (4 : Int).toNat), V.int (10 ^ (8 : Int).toNat)] (i : Int) = some (.int v) ∧ 0 < v ∧ v < 1073741824 := by
            match i, hi3 with
            | 0, _ => exact ⟨_, rfl, by decide, by decide⟩
            | 1, _ => exact ⟨_, rfl, by decide, by decide⟩
            | 2, _ => exact ⟨_, rfl, by decide, by decide⟩
          obtain ⟨v, hv, v1, v2⟩ := this
          exact ⟨_, rfl, _, _, rfl, rfl, ⟨by decide, by decide⟩, _, _, rfl, rfl, ⟨by decide, by decide, by decide⟩, _, _, rfl, rfl, ⟨by decide, by decide, by decide⟩, (by show 3 ≤ sizeLine; decide), fun lp hlp => ⟨_, rfl, lp, _, _, _, rfl, rfl, SqL.of upd_same, hv, _, _, rfl, rfl, ⟨v1, v2⟩, k _ _ ⟨_, rfl, Same.updN hlp⟩⟩⟩
      · obtain ⟨x6, x7, xs, qs, rfl, hS6, hF, hQ, hql⟩ := pv
        exact ⟨_, rfl, q fp H6 qs (S5.trans hS6) (S5.free hf0) ⟨xs, hF, hQ⟩ (by omega)⟩
/-! ### some lines to be joined -/
def sp_joins (K : PySem.W.Frag) : Sp := fun vs H Q _ => ∃ (a : Addr) (c : Int) (bs : Outer) (f : Str → L2.Row), vs = [.ref a, .int c] ∧ NetR H a bs f ∧ bs ≠ [] ∧ bs.length ≤ 12 ∧
  ∀ p H' ls, Same H H' → H p = none → LinesAt K H' p ls → ls.length ≤ 3 → Ends2 (bs.map (·.1)) ls → (∀ l ∈ ls, 1 ≤ l.2.2) → Q (.ref p) H'
theorem ok_l_joins (T : Txt K mg t) : FnOk P w K mg base CX0 2 t.l_joins t.fd_l_joins ["_law_net_here", "_law_cell"] (sp_joins K) := by
  refine T.f_l_joins.fn.ok sc_l_joins (fun vs H Q E h => ?_) (fun cdv A outer s H vs Q E hr h => ?_)
  · obtain ⟨a, c, bs, f, rfl, _⟩ := h; rfl
  · obtain ⟨a, c, bs, f, rfl, hN, hne, hlen, q⟩ := h
    have hu := hu_of hr
    have hb0 : 0 < bs.length := List.length_pos_iff.mpr hne
    generalize hks : bs.map (·.1) = ks at q
    have hkl : ks.length = bs.length := by rw [← hks, List.length_map]
    refine ⟨_, (pss_cons (ps_set (i := 2) sc_l_joins.nd rfl (Or.inl rfl) (pe_callB call_sortedD (by rfl) T.b_sorted boot_sorted (pa_cons (pv 0) pa_nil)))
      (pss_cons (ps_set (i := 3) sc_l_joins.nd rfl (Or.inl rfl) (pe_lst pa_nil))
      (pss_cons (ps_for PassesOwn.never rfl (pi_range1 rfl T.b_range (pa_cons (pe_op op_mod (pv 1) pe_int) pa_nil)) (pg_name (i := 4) sc_l_joins.nd rfl (Or.inl rfl))
        (pss_cons (ps_set (i := 5) sc_l_joins.nd rfl (Or.inl rfl) (pe_ix ix_list (pe_lst (pa_cons (pe_call (ok_l_mix T) (hr.mono (by decide)) rfl T.f_l_mix.mg T.f_l_mix.kp T.f_l_mix.bd .nil pass0 (pa_cons (pv 1) (pa_cons (pe_op op_add pe_int (pv 4)) pa_nil))) (pa_cons (pe_op op_fdivB (pe_op op_fdiv (pv 1) pe_int) (pe_ix ix_list (pe_lst (pa_cons pe_int (pa_cons (pe_op op_pow pe_int pe_int) (pa_cons (pe_op op_pow pe_int pe_int) pa_nil)))) (pe_callB (call_min2 rfl) (by rfl) T.b_min boot_min' (pa_cons (pv 4) (pa_cons pe_int pa_nil))) (fun _ _ => rfl))) pa_nil))) (pe_op op_mod (pe_op op_fdiv (pv 1) pe_int) pe_int) (fun _ _ => rfl)))
      (pss_cons (ps_set (i := 6) sc_l_joins.nd rfl (Or.inl rfl) (pe_ix ix_list (pv 2) (pe_op op_mod (pv 5) (pe_callB call_len (by rfl) T.b_len boot_len' (pa_cons (pv 2) pa_nil))) (fun _ _ => rfl)))
      (pss_cons (ps_set (i := 7) sc_l_joins.nd rfl (Or.inl rfl) (pe_ix ix_list (pv 2) (pe_op op_mod (pe_op op_fdiv (pv 5) pe_int) (pe_callB call_len (by rfl) T.b_len boot_len' (pa_cons (pv 2) pa_nil))) (fun _ _ => rfl)))
      (pss_one (ps_if (pt_cmpR op_ne (pv 6) (pv 7) (nomark _))
        (pss_one (ps_expr (pe_bm PySem.F.plainAttrs_list PySem.F.slot_list_append PySem.F.type_list_append mt_append (pv 3) (pa_cons (pe_tup (pa_cons (pv 6) (pa_cons (pv 7) (pa_cons (pe_op op_add pe_int (pe_op op_mod (pe_op op_fdiv (pv 5) pe_int) (pe_op op_pow pe_int pe_int))) pa_nil)))) pa_nil))))
        pss_nil))))))
      (pss_one (ps_ret (pv 3)))))), ?_⟩
    refine ⟨_, rfl, rfl, a, _, ks, rfl, hN.out, hks ▸ hN.keys, by omega, fun np hnp => ⟨(by decide), fun fp hfp => ?_⟩⟩
    have S1 := Same.updN (o := .lst ((sortS ks).map V.str)) hnp
    generalize hH1 : upd H np (.lst ((sortS ks).map V.str)) = H1 at S1 hfp
    have hnp1 : H1 np = some (.lst ((sortS ks).map V.str)) := by rw [← hH1, upd_same]
    have hnl : (sortS ks).length = bs.length := by rw [sortS_len, hkl]
    have c1 := Int.emod_nonneg c (show (4 : Int) ≠ 0 by decide)
    have c2 := Int.emod_lt_of_pos c (show (0 : Int) < 4 by decide)
    refine ⟨_, rfl, _, _, rfl, rfl, (by show (0 : Int) < 4; decide), _, rfl, by omega, by omega, for_range (n := (c % 4).toNat) (fun i σ H2 => ∃ x4 x5 x6 x7 ls, σ = [some (.ref a), some (.int c), some (.ref np), some (.ref fp), x4, x5, x6, x7] ∧ Same H1 H2 ∧ LinesAt K H2 fp ls ∧ ls.length ≤ i ∧ Ends2 ks ls ∧ ∀ l ∈ ls, 1 ≤ l.2.2) ⟨_, _, _, _, [], rfl, Same.updN hfp, ⟨[], upd_same, .nil⟩, Nat.le_refl _, fun _ h => absurd h (by simp), fun _ h => absurd h (by simp)⟩ (fun i σ H2 hi pv => ?_) (fun σ H2 pv => ?_)⟩
    · obtain ⟨x4, x5, x6, x7, ls, rfl, S2, ⟨zs, hz1, hz2⟩, hll, hen, hv1⟩ := pv
      have hzl : zs.length = ls.length := by rw [hz2.length, List.length_map]
      have hi3 : i < 3 := by omega
      simp only [Int.zero_add]
      have : ∃ v : Int, atI [V.int 1, V.int (10 ^ (13 : Int).toNat), V.int (10 ^ (26 : Int).toNat)] (if (2 : Int) < (i : Int) then 2 else (i : Int)) = some (.int v) ∧ 0 < v ∧ v.natAbs.log2 < 9000 := by
        match i, hi3 with
        | 0, _ => exact ⟨_, rfl, by decide, by decide +kernel⟩
        | 1, _ => exact ⟨_, rfl, by decide, by decide +kernel⟩
        | 2, _ => exact ⟨_, rfl, by decide, by decide +kernel⟩
      obtain ⟨v, hv, v1, v2⟩ := this
      refine ⟨_, rfl, _, rfl, _, _, rfl, rfl, c, _, rfl, by omega, by omega, ?_⟩
      refine ⟨_, rfl, _, _, rfl, rfl, ⟨by decide, by decide⟩, _, _, rfl, rfl, ⟨by decide, by decide, by decide⟩, _, _, rfl, rfl, ⟨by decide, by decide, by decide⟩, (by show 3 ≤ sizeLine; decide), fun lp hlp => ⟨_, rfl, _, _, rfl, lp, _, _, _, rfl, rfl, SqL.of upd_same, hv, _, _, rfl, rfl, ⟨v1, v2⟩, (by show 2 ≤ sizeLine; decide), fun lq hlq => ?_⟩⟩
      have S3 := (Same.updN (o := .lst [V.int 1, V.int (10 ^ (13 : Int).toNat), V.int (10 ^ (26 : Int).toNat)]) hlp).trans (Same.updN (o := .lst [V.int (mixF c (70 + (i : Int))), V.int (c / 8 / v)]) hlq)
      have hlq1 : (upd (upd H2 lp (.lst [V.int 1, V.int (10 ^ (13 : Int).toNat), V.int (10 ^ (26 : Int).toNat)])) lq (.lst [V.int (mixF c (70 + (i : Int))), V.int (c / 8 / v)])) lq = some (.lst [V.int (mixF c (70 + (i : Int))), V.int (c / 8 / v)]) := upd_same
      generalize upd (upd H2 lp (.lst [V.int 1, V.int (10 ^ (13 : Int).toNat), V.int (10 ^ (26 : Int).toNat)])) lq (.lst [V.int (mixF c (70 + (i : Int))), V.int (c / 8 / v)]) = H3 at S3 hlq1
      obtain ⟨n, hn⟩ := pick2 (x := mixF c (70 + (i : Int))) (y := c / 8 / v) (c := c / 4)
      have T3 := S2.trans S3
      have hnp3 := T3 _ _ hnp1
      have m1 : ∀ z : Int, 0 ≤ z % (bs.length : Int) ∧ z % (bs.length : Int) < (sortS ks).length := fun z => by
        rw [hnl]
        exact ⟨Int.emod_nonneg _ (by omega), Int.emod_lt_of_pos _ (by omega)⟩
      obtain ⟨u1, hm1, _, hu1⟩ := atI_ix (g := V.str) (l := sortS ks) (i := n % (bs.length : Int)) (m1 _).1 (m1 _).2
      obtain ⟨u2, hm2, _, hu2⟩ := atI_ix (g := V.str) (l := sortS ks) (i := (n / 12) % (bs.length : Int)) (m1 _).1 (m1 _).2
      have hmm : ((sortS ks).map V.str).length = bs.length := by rw [List.length_map, hnl]
      refine ⟨_, rfl, _, _, rfl, rfl, ⟨by decide, by decide⟩, _, _, rfl, rfl, (by show (0 : Int) < 2; decide), lq, _, _, _, rfl, rfl, SqL.of hlq1, hn, ?_⟩
      refine ⟨_, rfl, _, rfl, _, rfl, _, bs.length, rfl, .inl ⟨_, SqL.of hnp3, hmm.symm⟩, _, _, rfl, rfl, (by show (0 : Int) < _; omega), np, _, _, _, rfl, rfl, SqL.of hnp3, hu1, ?_⟩
      refine ⟨_, rfl, _, rfl, _, _, rfl, rfl, ⟨by decide, by decide⟩, _, rfl, _, bs.length, rfl, .inl ⟨_, SqL.of hnp3, hmm.symm⟩, _, _, rfl, rfl, (by show (0 : Int) < _; omega), np, _, _, _, rfl, rfl, SqL.of hnp3, hu2, ?_⟩
      have hz3 := S3 _ _ hz1
      refine ⟨_, rfl, _, rfl, rfl, _, rfl, iteB (fun hb => ?_) (fun hb => ⟨_, _, _, _, ls, rfl, T3, ⟨zs, hz3, hz2.sm S3.sm⟩, by omega, hen, hv1⟩)⟩
      have hneq : u1 ≠ u2 := fun e => by rw [e] at hb; simp at hb
      refine ⟨_, rfl, .inl ⟨rfl, _, SqL.of hz3⟩, _, rfl, _, rfl, _, rfl, _, _, rfl, rfl, ⟨by decide, by decide⟩, _, _, rfl, rfl, ⟨by decide, by decide, by decide⟩, _, _, rfl, rfl, (by show (0 : Int) < 10 ^ (9 : Int).toNat; decide), _, _, rfl, rfl, (by show 3 ≤ sizeLine; decide), fun tt ht => ⟨fp, zs, _, rfl, rfl, (by rw [upd_ne (ne_of_none hz3 ht)]; exact hz3), szl (by omega), ?_⟩⟩
      have w1 := Int.emod_nonneg (n / 144) (show ((10 : Int) ^ (9 : Int).toNat) ≠ 0 by decide)
      refine ⟨_, _, _, _, ls ++ [(u1, u2, 1 + n / 144 % 10 ^ (9 : Int).toNat)], rfl, (T3.trans (Same.updN ht)).upd hfp, LinesAt.snoc hz3 (hz2.sm S3.sm) ht (u1, u2, 1 + n / 144 % 10 ^ (9 : Int).toNat), by simp; omega, fun l hl => ?_, fun l hl => ?_⟩
      · rcases List.mem_append.mp hl with d | d
        · exact hen l d
        · rw [List.mem_singleton.mp d]; exact ⟨mem_sortS.mp hm1, mem_sortS.mp hm2, hneq⟩
      · rcases List.mem_append.mp hl with d | d
        · exact hv1 l d
        · rw [List.mem_singleton.mp d]; show 1 ≤ 1 + n / 144 % 10 ^ (9 : Int).toNat; omega
    · obtain ⟨x4, x5, x6, x7, ls, rfl, S2, hL, hll, hen, hv1⟩ := pv
      exact ⟨_, rfl, q fp H2 ls (S1.trans S2) (S1.free hfp) hL (by omega) hen hv1⟩
end
end K05

set_option Elab.async false
set_option linter.all false
set_option maxRecDepth 100000
set_option maxHeartbeats 4000000
namespace K05
open PySem L2 PySem.Spec PyProof.Rows
section
variable {P : Program} {w : World} {K : PySem.W.Frag} {mg : Str → Option Value} {base : Heap} {t : Adr}
/-! ### one change held against its due -/
def sp_good (K : PySem.W.Frag) : Sp := fun vs H Q _ => ∃ (a : Addr) (c : Int) (bs : Outer) (f : Str → L2.Row), vs = [.ref a, .int c] ∧ NetAt H a bs f ∧ GN (bs.map (·.1)) f ∧ bs.length ≤ 12 ∧ ∀ H', Same H H' → Q (.bl true) H'
theorem ok_l_good (T : Txt K mg t) : FnOk P w K mg base CX0 5 t.l_good t.fd_l_good ["_law_net_here", "_law_cell"] (sp_good K) := by
  refine T.f_l_good.fn.ok sc_l_good (fun vs H Q E h => ?_) (fun cdv A outer s H vs Q E hr h => ?_)
  · obtain ⟨a, c, bs, f, rfl, _⟩ := h; rfl
  · obtain ⟨a, c, bs, f, rfl, hN, hg, hlen, q⟩ := h
    have hu := hu_of hr
    have hu1 : (A.deeper _).units < cLine := Nat.lt_of_succ_lt (hu_of hr)
    have hu8 : (A.deeper _).units + 8 < cLine := Nat.lt_of_le_of_lt (Nat.add_le_add_left (by decide : 8 ≤ 64) _) hr.units
    have hnd := hN.ks
    refine ⟨_, (pss_cons (ps_set (i := 2) sc_l_good.nd rfl (Or.inl rfl) (pe_call (ok_l_copied T) (hr.mono (by decide)) rfl T.f_l_copied.mg T.f_l_copied.kp T.f_l_copied.bd .nil pass0 (pa_cons (pv 0) pa_nil)))
      (pss_cons (ps_set (i := 3) sc_l_good.nd rfl (Or.inl rfl) (pe_call (ok_l_some_lines T) (hr.mono (by decide)) rfl T.f_l_some_lines.mg T.f_l_some_lines.kp T.f_l_some_lines.bd .nil pass0 (pa_cons (pv 0) (pa_cons (pe_op op_fdiv (pv 1) pe_int) pa_nil))))
      (pss_cons (ps_set (i := 4) sc_l_good.nd rfl (Or.inl rfl) (pe_call (ok_l_less_due T) (hr.mono (by decide)) rfl T.f_l_less_due.mg T.f_l_less_due.kp T.f_l_less_due.bd .nil pass0 (pa_cons (pv 0) (pa_cons (pv 3) pa_nil))))
      (pss_cons (ps_set (i := 5) sc_l_good.nd rfl (Or.inl rfl) (pe_callTy call_list_of (by rfl) T.b_list boot_ty_list (pa_cons (pv 3) pa_nil)))
      (pss_cons (ps_set (i := 6) sc_l_good.nd rfl (Or.inl rfl) (pe_call (ok_l_less T) (hr.mono (by decide)) rfl T.f_l_less.mg T.f_l_less.kp T.f_l_less.bd .nil pass0 (pa_cons (pv 0) (pa_cons (pv 5) pa_nil))))
      (pss_cons (ps_if (PW.pt (pw_and (pt_cmpR op_eq (pe_op op_mod (pv 1) pe_int) pe_int (nomark _)) (pw_and1 (pt_cmpR (op_ne0D hu1) (pv 0) pe_dnewK (nomark _)))))
        (pss_cons (ps_set (i := 3) sc_l_good.nd rfl (Or.inl rfl) (pe_call (ok_l_joins T) (hr.mono (by decide)) rfl T.f_l_joins.mg T.f_l_joins.kp T.f_l_joins.bd .nil pass0 (pa_cons (pv 0) (pa_cons (pe_op op_fdiv (pv 1) pe_int) pa_nil))))
      (pss_cons (ps_set (i := 4) sc_l_good.nd rfl (Or.inl rfl) (pe_call (ok_l_joined_due T) (hr.mono (by decide)) rfl T.f_l_joined_due.mg T.f_l_joined_due.kp T.f_l_joined_due.bd .nil pass0 (pa_cons (pv 0) (pa_cons (pv 3) pa_nil))))
      (pss_cons (ps_set (i := 5) sc_l_good.nd rfl (Or.inl rfl) (pe_callTy call_list_of (by rfl) T.b_list boot_ty_list (pa_cons (pv 3) pa_nil)))
      (pss_one (ps_set (i := 6) sc_l_good.nd rfl (Or.inl rfl) (pe_call (ok_net_joined T) (hr.mono (by decide)) rfl T.f_net_joined.mg T.f_net_joined.kp T.f_net_joined.bd .nil pass0 (pa_cons (pv 0) (pa_cons (pv 5) pa_nil))))))))
        pss_nil)
      (pss_cons (ps_if (PW.pt (pw_or (pt_cmpR (op_neD hu8) (pv 6) (pv 4) (nomark _)) (pw_or (pt_cmpR (op_neD hu8) (pv 0) (pv 2) (nomark _)) (pw_or1 (pt_cmpR (op_neD hu8) (pv 5) (pv 3) (nomark _))))))
        (pss_one (ps_ret pe_bl))
        pss_nil)
      (pss_cons (ps_if (pt_val (pe_callB call_isi (by rfl) T.b_isinstance boot_isinstance' (pa_cons (pv 6) (pa_cons (pe_bltn (v := .ty "dict") rfl T.b_dict boot_ty_dict rfl) pa_nil))))
        (pss_cons (ps_forD PassesOwn.never rfl (pv 6) (pg_name (i := 7) sc_l_good.nd rfl (Or.inl rfl))
        (pss_one (ps_expr (pe_bm0 PySem.F.plainAttrs_dict PySem.F.slot_dict_clear PySem.F.type_dict_clear mt_clearD (pe_dget hu (pv 6) (pv 7) (fun _ _ => rfl))))))
      (pss_one (ps_expr (pe_bm0 PySem.F.plainAttrs_dict PySem.F.slot_dict_clear PySem.F.type_dict_clear mt_clearD (pv 6)))))
        pss_nil)
      (pss_one (ps_ret (pe_cmpR (op_eqD hu8) (pv 0) (pv 2) (nomark _)))))))))))), ?_⟩
    refine ⟨_, rfl, a, bs, f, rfl, hN, hlen, fun kp H1 hNS => ?_⟩
    obtain ⟨kc, S1, hK1, hkk, hkn⟩ := hNS
    have hN1 := hN.same S1
    refine ⟨_, rfl, _, rfl, _, _, rfl, rfl, ⟨by decide, by decide⟩, a, _, bs, f, rfl, hN1.r, hg.rows, hlen, fun lp H2 ps S2 hlp hP hpl => ?_⟩
    obtain ⟨xs, hx1, hx2⟩ := hP
    have hN2 := hN1.same S2
    refine ⟨_, rfl, _, rfl, a, lp, bs, f, xs, ps, rfl, hN2, hg, hlen, SqL.of hx1, hx2, fun du H3 S3 hdu => ?_⟩
    have hx3 := S3 _ _ hx1
    have hN3 := hN2.same S3
    refine ⟨_, rfl, lp, xs, rfl, .inl (SqL.of hx3), fun mp hmp => ?_⟩
    have S4 := Same.updN (o := .lst xs) hmp
    have hmp4 : (upd H3 mp (.lst xs)) mp = some (.lst xs) := upd_same
    generalize upd H3 mp (.lst xs) = H4 at S4 hmp4
    have hx4 := S4 _ _ hx3
    have hN4 := hN3.same S4
    refine ⟨_, rfl, _, rfl, a, mp, bs, f, xs, ps, rfl, hN4.r, hg, hlen, SqL.of hmp4, hx2.sm (S3.trans S4).sm, by omega, fun fo H5 S5 hfo => ?_⟩
    have hx5 := S5 _ _ hx4
    have hmp5 := S5 _ _ hmp4
    have hN5 := hN4.same S5
    have T5 : Same H1 H5 := ((S2.trans S3).trans S4).trans S5
    have tw : Twin K H1 H5 fo du := by
      refine twin_res (H1 := H2) (H2 := H4) hnd hg S2 (S3.trans S4) S5 ?_ hfo
      cases hf : ps.find? (badP (bs.map (·.1)) f) with
      | none =>
        rw [hf] at hdu
        obtain ⟨p, e, ds, s, m, hd, nw⟩ := hdu
        exact ⟨p, e, ds, s.trans S4, m.same S4, hd, nw⟩
      | some pr =>
        rw [hf] at hdu
        obtain ⟨p, e, h1, h2⟩ := hdu
        exact ⟨p, e, h1, S4 _ _ h2⟩
    have hdp : D.deps (ps.map pairD) ≤ 2 := Nat.le_trans (deps_map (g := pairD) (m := 1) (fun _ => Nat.le_refl _) _) (by decide)
    dsimp only [gName]
    show tSeq (tIfS _ _ _) _ _ _ _
    refine seqIf (fun σ H' => ∃ lp mp du fo xs ds, σ = [some (.ref a), some (.int c), some (.ref kp), some (.ref lp), some du, some (.ref mp), some fo, none] ∧ Same H1 H' ∧ H' lp = some (.lst xs) ∧ H' mp = some (.lst xs) ∧ Reps K H' xs ds ∧ D.flats ds = true ∧ D.deps ds ≤ 2 ∧ Twin K H1 H' fo du) (fun σ H6 pv => ?_) (fun cont => ?_)
    · clear tw hdp hN5 hN4 hN3 hN2 hx5 hx4 hx3 hx2 hx1 hmp5 hmp4 hfo hdu T5 S5 S4 S3 S2
      obtain ⟨lp, mp, du, fo, xs, ds, rfl, S6, hl6, hm6, hrs, hfl, hdp, tw⟩ := pv
      obtain ⟨fp, dp, d, d', rfl, rfl, r1, r2, deq, hdd, hty⟩ := tw
      have hN6 := hN1.same S6
      have hK6 := hK1.same S6
      have rn : Rep K H6 (.ref a) (netD (bs.map (·.1)) f) := hN6.r.rep
      have rk : Rep K H6 (.ref kp) (netD (bs.map (·.1)) f) := by have := hK6.r.rep (K := K); rw [hkk] at this; exact this
      have dqn : DEq (netD (bs.map (·.1)) f) (netD (bs.map (·.1)) f) := netD_deq (.refl _) (fun x hx => hg.rows.nd x hx) (fun x hx => hg.rows.nd x hx) fun _ _ _ => rfl
      have hdn : (netD (bs.map (·.1)) f).dep ≤ 8 := Nat.le_trans (netD_dep _ _) (by decide)
      refine ⟨_, rfl, _, rfl, fp, dp, d, d', rfl, rfl, r1, r2, deq, hdd, _, rfl, iteF ?_⟩
      refine ⟨_, rfl, _, rfl, a, kp, _, _, rfl, rfl, rn, rk, dqn, hdn, _, rfl, iteF ?_⟩
      refine ⟨_, rfl, _, rfl, mp, lp, .lst ds, .lst ds, rfl, rfl, .lst (SqL.of hm6) hrs, .lst (SqL.of hl6) hrs, .same hfl, (by show D.deps ds + 1 ≤ 8; omega), _, rfl, iteF ?_⟩
      have last : ∀ H7 : Hp, Same H1 H7 → Rep K H7 (.ref a) (netD (bs.map (·.1)) f) ∧ Rep K H7 (.ref kp) (netD (bs.map (·.1)) f) ∧ Q (.bl true) H7 := fun H7 S7 => by
        have rk : Rep K H7 (.ref kp) (netD (bs.map (·.1)) f) := by have := (hK1.same S7).r.rep (K := K); rw [hkk] at this; exact this
        exact ⟨(hN1.same S7).r.rep, rk, q H7 (S1.trans S7)⟩
      refine ⟨_, rfl, _, d, "dict", rfl, r1, rfl, _, rfl, ?_⟩
      rcases hty with ht | ⟨ht, cs, g, hC, hnew⟩
      · rw [ht]
        obtain ⟨l1, l2, l3⟩ := last H6 S6
        exact iteF ⟨_, rfl, _, rfl, a, kp, _, _, rfl, rfl, l1, l2, dqn, hdn, l3⟩
      · rw [ht]
        refine iteT ?_
        have f7 : H1 fp = none := hnew.1
        refine ⟨_, rfl, fp, _, rfl, .inl hC.out, fun o H12 fz => forDm hC.out fz (fun _ σ H => ∃ x7, σ = [some (.ref a), some (.int c), some (.ref kp), some (.ref lp), some (.ref dp), some (.ref mp), some (.ref fp), x7] ∧ Same H1 H ∧ H fp = some (.frz o (.dK (encO cs))) ∧ ∀ z ∈ cs, ∃ l, H z.2 = some (.dK l)) (fun e => ?_) (fun _ _ _ h => ?_) (fun j k v σ H13 hk pv => ?_) (fun σ H13 pv => ?_)⟩
        · subst e
          refine ⟨_, rfl, S6.upd f7, upd_same, fun z hz => ⟨encI (g z.1), ?_⟩⟩
          rw [upd_ne (hC.ne (mem_addrOf hC.ks (x := z.1) (b := z.2) hz))]
          exact hC.inn z hz
        · obtain ⟨_, _, _, h, _⟩ := h; exact h
        · obtain ⟨x7, rfl, S13, h7, hall⟩ := pv
          obtain ⟨z, hz, rfl, rfl⟩ := encO_get hk
          have had := mem_addrOf hC.ks (x := z.1) (b := z.2) hz
          obtain ⟨l, hl⟩ := hall z hz
          refine ⟨_, rfl, _, rfl, fp, .ref z.2, rfl, .inl ⟨encO cs, Sum.inr z.1, .inr ⟨o, h7⟩, rfl, by rw [valV_encO, had]; rfl⟩, .inr (.inr (.inl ⟨rfl, .inl ⟨_, hl⟩⟩)), z.2, _, rfl, rfl, hl, _, rfl, S13.upd (hnew.2 z hz), ?_, fun y hy => ?_⟩
          · rw [upd_ne (Ne.symm (hC.ne had))]; exact h7
          · by_cases e : y.2 = z.2
            · exact ⟨[], by rw [e, upd_same]⟩
            · obtain ⟨l', hl'⟩ := hall y hy
              exact ⟨l', by rw [upd_ne e]; exact hl'⟩
        · obtain ⟨x7, rfl, S13, h7, hall⟩ := pv
          obtain ⟨l1, l2, l3⟩ := last _ ((S13.upd (o := .dK (encO cs)) f7).upd (o := .dK []) f7)
          exact ⟨_, rfl, .inr (.inr (.inl ⟨rfl, .inl ⟨_, upd_same⟩⟩)), fp, _, rfl, rfl, upd_same, _, rfl, _, rfl, a, kp, _, _, rfl, rfl, l1, l2, dqn, hdn, l3⟩
    · have c1 := Int.emod_nonneg c (show (2 : Int) ≠ 0 by decide)
      refine ⟨_, rfl, _, _, rfl, rfl, (by show (0 : Int) < 2; decide), rfl, _, rfl, ?_⟩
      have else_ : (∃ lp' mp' du' fo' xs' ds', [some (V.ref a), some (.int c), some (.ref kp), some (.ref lp), some du, some (.ref mp), some fo, none] = [some (.ref a), some (.int c), some (.ref kp), some (.ref lp'), some du', some (.ref mp'), some fo', none] ∧ Same H1 H5 ∧ H5 lp' = some (.lst xs') ∧ H5 mp' = some (.lst xs') ∧ Reps K H5 xs' ds' ∧ D.flats ds' = true ∧ D.deps ds' ≤ 2 ∧ Twin K H1 H5 fo' du') := ⟨lp, mp, du, fo, xs, ps.map pairD, rfl, T5, hx5, hmp5, hx2.sm ((S3.trans S4).trans S5).sm, flats_map (fun _ => rfl) _, hdp, tw⟩
      refine iteD (fun _ => ?_) (fun _ => iteF (cont _ _ else_))
      refine ⟨_, rfl, fun e0 he0 => ⟨a, e0, encO bs, rfl, rfl, .inl ((hN5.same (Same.updN he0)).out), .inl upd_same, _, rfl, ?_⟩⟩
      have S6 := Same.updN (o := .dK []) he0
      generalize upd H5 e0 (.dK []) = H6 at S6
      cases hbs : bs with
      | nil =>
        refine iteF (cont _ _ ?_)
        obtain ⟨lp', mp', du', fo', xs', ds', h1, h2, h3, h4, h5, h6, h7, h8⟩ := else_
        exact ⟨lp', mp', du', fo', xs', ds', h1, h2.trans S6, S6 _ _ h3, S6 _ _ h4, h5.sm S6.sm, h6, h7, h8.same S6⟩
      | cons b0 bt =>
        rw [← hbs]
        have hne : bs ≠ [] := by rw [hbs]; simp
        have hb1 : (!(encO bs).isEmpty) = true := by rw [hbs]; rfl
        rw [hb1]
        refine iteT ?_
        have T6 := T5.trans S6
        have hN6 := hN1.same T6
        refine ⟨_, rfl, _, rfl, _, _, rfl, rfl, ⟨by decide, by decide⟩, a, _, bs, f, rfl, hN6.r, hne, hlen, fun lp2 H7 ls S7 hlp2 hL hll hen hv1 => ?_⟩
        obtain ⟨zs, hz1, hz2⟩ := hL
        have hN7 := hN6.same S7
        refine ⟨_, rfl, _, rfl, a, lp2, bs, f, zs, ls, rfl, hN7, hg.rows, hlen, SqL.of hz1, hz2, hen, fun dq H8 hNS8 => ?_⟩
        obtain ⟨dc, S8, hD8, hdk, hdn⟩ := hNS8
        refine ⟨_, rfl, lp2, zs, rfl, .inl (SqL.of (S8 _ _ hz1)), fun mp2 hmp2 => ?_⟩
        have S9 := Same.updN (o := .lst zs) hmp2
        have hmp9 : (upd H8 mp2 (.lst zs)) mp2 = some (.lst zs) := upd_same
        generalize upd H8 mp2 (.lst zs) = H9 at S9 hmp9
        have T9 := ((T6.trans S7).trans S8).trans S9
        refine ⟨_, rfl, _, rfl, a, mp2, bs, f, zs, ls, rfl, (hN1.same T9).r, hg, hlen, SqL.of hmp9, hz2.sm (S8.trans S9).sm, by omega, hen, fun fp H10 hNS10 => ?_⟩
        obtain ⟨fc, S10, hF10, hfk, hfn⟩ := hNS10
        have e1 := (joins_all hnd hg).joins hen
        have rr : RowsIn (bs.map (·.1)) (joinsF (joinsF (fun _ => []) (linesF (bs.map (·.1)) f)) ls) := by
          obtain ⟨B, _, g⟩ := hg
          exact ((RowsIn.nil _).joins (linesF_ends g)).joins hen
        have tw2 : Twin K H1 H10 (.ref fp) (.ref dq) := twin_nets hF10 ((hD8.same S9).same S10) (hfn.same T9) hfk hdk e1 rr fun x hx => (hg.rows.joins hen).nd x hx
        exact cont _ _ ⟨lp2, mp2, _, _, zs, ls.map lineD, rfl, T9.trans S10, S10 _ _ (S9 _ _ (S8 _ _ hz1)), S10 _ _ hmp9, hz2.sm ((S8.trans S9).trans S10).sm, flats_map (fun _ => rfl) _, Nat.le_trans (deps_map (g := lineD) (m := 1) (fun _ => Nat.le_refl _) _) (by decide), tw2⟩
end
end K05

set_option Elab.async false
set_option linter.all false
set_option maxRecDepth 100000
set_option maxHeartbeats 4000000
namespace K05
open PySem L2 PySem.Spec PyProof.Rows
section
variable {P : Program} {w : World} {K : PySem.W.Frag} {mg : Str → Option Value} {base : Heap} {t : Adr}
/-! ### the law -/
def sp_law (K : PySem.W.Frag) : Sp := fun vs H Q _ => ∃ (a : Addr) (ns : List Int), vs = [.ref a] ∧ SqL K H a (ns.map V.int) ∧ ∀ H', Q (.bl true) H'
theorem ok_law (T : Txt K mg t) : FnOk P w K mg base CX0 6 t.law t.fd_law ["_law_script"] (sp_law K) := by
  refine T.f_law.fn.ok sc_law (fun vs H Q E h => ?_) (fun cdv A outer s H vs Q E hr h => ?_)
  · obtain ⟨a, ns, rfl, _⟩ := h; rfl
  · obtain ⟨a, ns, rfl, hA, q⟩ := h
    have hu := hu_of hr
    have hu1 : (A.deeper _).units < cLine := Nat.lt_of_succ_lt (hu_of hr)
    have hu8 : (A.deeper _).units + 8 < cLine := Nat.lt_of_le_of_lt (Nat.add_le_add_left (by decide : 8 ≤ 64) _) hr.units
    refine ⟨_, (pss_cons (ps_set (i := 1) sc_law.nd rfl (Or.inl rfl) (pe_call (ok_l_names T) (hr.mono (by decide)) rfl T.f_l_names.mg T.f_l_names.kp T.f_l_names.bd .nil pass0 (pa_cons (pe_call (ok_l_cell_at T) (hr.mono (by decide)) rfl T.f_l_cell_at.mg T.f_l_cell_at.kp T.f_l_cell_at.bd .nil pass0 (pa_cons (pv 0) (pa_cons pe_int pa_nil))) (pa_cons (pe_op op_mod (pe_call (ok_l_cell_at T) (hr.mono (by decide)) rfl T.f_l_cell_at.mg T.f_l_cell_at.kp T.f_l_cell_at.bd .nil pass0 (pa_cons (pv 0) (pa_cons pe_int pa_nil))) pe_int) pa_nil))))
      (pss_cons (ps_set (i := 2) sc_law.nd rfl (Or.inl rfl) (pe_call (ok_l_net T) (hr.mono (by decide)) rfl T.f_l_net.mg T.f_l_net.kp T.f_l_net.bd .nil pass0 (pa_cons (pv 0) (pa_cons (pv 1) (pa_cons (pe_op op_pow pe_int pe_int) pa_nil)))))
      (pss_cons (ps_for PassesOwn.never rfl (pi_enumL rfl T.b_enumerate (pa_cons (pe_slice sl_list (pv 0) (po_some pe_int) (po_some pe_int)) pa_nil)) (pg_tup rfl (pgs_cons (pg_name (i := 3) sc_law.nd rfl (Or.inl rfl)) (pgs_cons (pg_name (i := 4) sc_law.nd rfl (Or.inl rfl)) pgs_nil)))
        (pss_cons (ps_if (pt_not (pt_val (pe_call (ok_l_good T) (hr.mono (by decide)) rfl T.f_l_good.mg T.f_l_good.kp T.f_l_good.bd .nil pass0 (pa_cons (pv 2) (pa_cons (pv 4) pa_nil)))))
        (pss_one (ps_ret pe_bl))
        pss_nil)
      (pss_one (ps_if (PW.pt (pw_and (pt_cmpR op_eq (pe_op op_mod (pv 3) pe_int) pe_int (nomark _)) (pw_and1 (pt_cmpR (op_ne0 hu1) (pv 1) (pe_lst pa_nil) (nomark _)))))
        (pss_cons (ps_set (i := 5) sc_law.nd rfl (Or.inl rfl) (pe_call (ok_l_joins T) (hr.mono (by decide)) rfl T.f_l_joins.mg T.f_l_joins.kp T.f_l_joins.bd .nil pass0 (pa_cons (pv 2) (pa_cons (pe_op op_fdiv (pv 4) pe_int) pa_nil))))
      (pss_one (ps_set (i := 2) sc_law.nd rfl (Or.inl rfl) (pe_call (ok_net_joined T) (hr.mono (by decide)) rfl T.f_net_joined.mg T.f_net_joined.kp T.f_net_joined.bd .nil pass0 (pa_cons (pv 2) (pa_cons (pv 5) pa_nil))))))
        pss_nil))))
      (pss_cons (ps_set (i := 6) sc_law.nd rfl (Or.inl rfl) (pe_call (ok_l_copied T) (hr.mono (by decide)) rfl T.f_l_copied.mg T.f_l_copied.kp T.f_l_copied.bd .nil pass0 (pa_cons (pv 2) pa_nil)))
      (pss_cons (ps_set (i := 5) sc_law.nd rfl (Or.inl rfl) (pe_lst pa_nil))
      (pss_cons (ps_for PassesOwn.never rfl (pi_list (pe_slice sl_list (pe_callB call_sortedD (by rfl) T.b_sorted boot_sorted (pa_cons (pv 2) pa_nil)) po_none (po_some pe_int))) (pg_name (i := 7) sc_law.nd rfl (Or.inr rfl))
        (pss_one (ps_set (i := 5) sc_law.nd rfl (Or.inl rfl) (pe_op op_cat (pv 5) (pe_comp ["_law_other"] [7] rfl (pi_list (pe_slice sl_list (pe_callB call_sortedD (by rfl) T.b_sorted boot_sorted (pa_cons (pe_dget hu (pv 2) (pv 7) (fun _ _ => rfl)) pa_nil)) po_none (po_some pe_int))) (fun _ _ _ _ _ => (pg_name (i := 0) (show (["_law_other", "_law_one"] : List Str).Nodup by decide +kernel) rfl (Or.inl rfl))) (fun _ _ _ _ _ => pif_nil) (fun _ _ _ _ _ => (pe_tup (pa_cons (pv 1) (pa_cons (pv 0) pa_nil)))) ⟨⟨_, rfl, rfl, .inl rfl⟩, trivial⟩ (hfr := by show ∀ y ∈ (_ : List (Str × NameKind)), y.2 = NameKind.free → (defScope s_law).names.lookup y.1 = some NameKind.cell ∨ (defScope s_law).names.lookup y.1 = some NameKind.free; decide +kernel))))))
      (pss_cons (ps_set (i := 8) sc_law.nd rfl (Or.inl rfl) (pe_call (ok_net_less T) (hr.mono (by decide)) rfl T.f_net_less.mg T.f_net_less.kp T.f_net_less.bd .nil passQ (pa_cons (pv 6) (pa_cons (pv 5) pa_nil))))
      (pss_cons (ps_set (i := 9) sc_law.nd rfl (Or.inl rfl) (pe_call (ok_l_less_due T) (hr.mono (by decide)) rfl T.f_l_less_due.mg T.f_l_less_due.kp T.f_l_less_due.bd .nil pass0 (pa_cons (pv 2) (pa_cons (pv 5) pa_nil))))
      (pss_cons (ps_forD PassesOwn.never rfl (pv 6) (pg_name (i := 7) sc_law.nd rfl (Or.inr rfl))
        (pss_one (ps_expr (pe_bm0 PySem.F.plainAttrs_dict PySem.F.slot_dict_clear PySem.F.type_dict_clear mt_clearD (pe_dget hu (pv 6) (pv 7) (fun _ _ => rfl))))))
      (pss_cons (ps_expr (pe_bm0 PySem.F.plainAttrs_dict PySem.F.slot_dict_clear PySem.F.type_dict_clear mt_clearD (pv 6)))
      (pss_cons (ps_expr (pe_bm0 PySem.F.plainAttrs_list PySem.F.slot_list_clear PySem.F.type_list_clear mt_clear (pv 5)))
      (pss_one (ps_ret (pe_cmpR (op_eqD hu8) (pv 8) (pv 9) (nomark _))))))))))))))), ?_⟩
    have c1 := Int.emod_nonneg (ns.getD (0 : Int).toNat 0) (show (13 : Int) ≠ 0 by decide)
    have c2 := Int.emod_lt_of_pos (ns.getD (0 : Int).toNat 0) (show (0 : Int) < 13 by decide)
    refine ⟨_, rfl, a, ns, 1, rfl, by decide, hA, _, rfl, a, ns, 0, rfl, by decide, hA, _, _, rfl, rfl, (by show (0 : Int) < 13; decide), _, _, rfl, c1, by omega, fun b H1 ks S1 hb1 hb2 hkl hnd hnm => ?_⟩
    have hkl : ks.length ≤ 12 := by omega
    have hBv : (10 : Int) ^ (9 : Int).toNat = 1000000000 := by decide
    refine ⟨_, rfl, _, rfl, _, _, rfl, rfl, ⟨by decide, by decide, by decide⟩, a, b, ns, ks, _, rfl, S1.seq hA, SqL.of hb2, hnd, hkl, (by decide), (by decide), fun p Hn hNS => ?_⟩
    obtain ⟨bs, f, S2, hN, hbs, hnew, hg⟩ := hNS
    rw [hBv] at hg
    have hAn := (S1.trans S2).seq hA
    have hKn := S2 _ _ hb2
    have hbl : bs.length = ks.length := by have := congrArg List.length hbs; rw [List.length_map] at this; exact this
    have hg0 : GN (bs.map (·.1)) f := ⟨1000000000, by decide, by rw [hbs]; exact hg⟩
    clear S1 S2 hb1 hb2 hnew hg hbs hnm hBv c1 c2
    refine ⟨_, rfl, _, rfl, _, rfl, a, _, rfl, hAn, fun sp hsp => ⟨sp, _, rfl, upd_same, ?_⟩⟩
    have Ssp := Same.updN (o := .lst (cutV (ns.map V.int) (some 4) (some 64))) hsp
    have hcut : ∃ ms : List Int, cutV (ns.map V.int) (some 4) (some 64) = ms.map V.int := by
      unfold cutV
      rw [← List.map_drop, ← List.map_take]
      exact ⟨_, rfl⟩
    obtain ⟨ms, hms⟩ := hcut
    rw [hms] at Ssp ⊢
    have hsp1 : (upd Hn sp (.lst (ms.map V.int))) sp = some (.lst (ms.map V.int)) := upd_same
    generalize upd Hn sp (.lst (ms.map V.int)) = H2 at Ssp hsp1
    have hK2 := Ssp _ _ hKn
    have hN2 := hN.same Ssp
    refine for_enum (K := K) (xs := ms.map V.int) (fun i σ H3 => ∃ p bs f x3 x4 x5, σ = [some (.ref a), some (.ref b), some (.ref p), x3, x4, x5, none, none, none, none] ∧ Same H2 H3 ∧ NetAt H3 p bs f ∧ GN (bs.map (·.1)) f ∧ bs.length = ks.length) ⟨p, bs, f, _, _, _, rfl, Same.refl _, hN2, hg0, hbl⟩ (fun i σ H3 _ pv => ?_) (fun i x tp σ H3 hx pv htp => ?_) (fun σ H3 pv => ?_)
    · obtain ⟨_, _, _, _, _, _, rfl, S3, _⟩ := pv
      exact SqL.of (S3 _ _ hsp1)
    · clear hN2 hN hg0 hbl
      obtain ⟨p, bs, f, x3, x4, x5, rfl, S3, hN, hg, hbl⟩ := pv
      rw [List.getElem?_map] at hx
      cases hm : ms[i]? with
      | none => rw [hm] at hx; cases hx
      | some c =>
      rw [hm] at hx
      cases hx
      have S4 := Same.updN (o := .tup [.int i, .int c]) htp
      refine ⟨tp, _, rfl, SqT.of upd_same, rfl, _, _, rfl, _, _, rfl, rfl, ?_⟩
      refine ⟨_, rfl, _, rfl, p, c, bs, f, rfl, hN.same S4, hg, by omega, fun H5 S5 => ⟨_, rfl, iteF ?_⟩⟩
      have T5 := (S3.trans S4).trans S5
      have hN5 := (hN.same S4).same S5
      refine ⟨_, rfl, _, _, rfl, rfl, (by show (0 : Int) < 3; decide), rfl, _, rfl, ?_⟩
      refine iteD (fun _ => ?_) (fun _ => iteF ⟨p, bs, f, _, _, _, rfl, T5, hN5, hg, hbl⟩)
      refine ⟨_, rfl, (by decide), fun e0 he0 => ⟨b, e0, ks.map V.str, rfl, rfl, SqL.of (by rw [upd_ne (ne_of_none (T5 _ _ hK2) he0)]; exact T5 _ _ hK2), SqL.of upd_same, _, rfl, ?_⟩⟩
      have S6 := Same.updN (o := .lst []) he0
      generalize upd H5 e0 (.lst []) = H6 at S6
      have T6 := T5.trans S6
      have hN6 := hN5.same S6
      refine iteB (fun hb => ?_) (fun _ => ⟨p, bs, f, _, _, _, rfl, T6, hN6, hg, hbl⟩)
      have hne : bs ≠ [] := fun e => by
        rw [e] at hbl
        have : ks = [] := List.length_eq_zero_iff.mp hbl.symm
        rw [this] at hb; simp at hb
      refine ⟨_, rfl, _, rfl, _, _, rfl, rfl, ⟨by decide, by decide⟩, p, _, bs, f, rfl, hN6.r, hne, by omega, fun lp H7 ls S7 hlp hL hll hen hv1 => ?_⟩
      obtain ⟨zs, hz1, hz2⟩ := hL
      refine ⟨_, rfl, _, rfl, p, lp, bs, f, zs, ls, rfl, (hN6.same S7).r, hg, by omega, SqL.of hz1, hz2, by omega, hen, fun np H8 hNS8 => ?_⟩
      obtain ⟨nc, S8, hN8, hnk, hnn⟩ := hNS8
      have e1 := (joins_all hN.ks hg).joins hen
      have rr : RowsIn (bs.map (·.1)) (joinsF (joinsF (fun _ => []) (linesF (bs.map (·.1)) f)) ls) := by
        obtain ⟨B, _, g⟩ := hg
        exact ((RowsIn.nil _).joins (linesF_ends g)).joins hen
      refine ⟨np, nc, _, _, _, _, rfl, (T6.trans S7).trans S8, hN8, ?_, ?_⟩
      · rw [hnk]
        refine (hg.joins hen hv1).perm (sortS_perm _) (fun x hx y => e1 x (mem_sortS.mp hx) y) fun x hx => rr.nd x (mem_sortS.mp hx)
      · have := congrArg List.length hnk
        rw [List.length_map, sortS_len, List.length_map] at this
        omega
    · clear hN2 hN hg0 hbl
      obtain ⟨p, bs, f, x3, x4, x5, rfl, S3, hN, hg, hbl⟩ := pv
      have hlen : bs.length ≤ 12 := by omega
      refine ⟨_, rfl, p, bs, f, rfl, hN, hlen, fun hp H4 hNS => ?_⟩
      obtain ⟨hc, S4, hH4, hhk, hhn⟩ := hNS
      have hN4 := hN.same S4
      generalize hks : bs.map (·.1) = us at hg hhk
      have hul : us.length ≤ 12 := by rw [← hks, List.length_map]; omega
      have hund : us.Nodup := by rw [← hks]; exact hN.ks
      refine ⟨(by decide), fun t0 ht0 => ?_⟩
      have S5 := Same.updN (o := .lst []) ht0
      refine ⟨_, rfl, rfl, p, _, us, rfl, (hN4.same S5).r.out, hks ▸ hN.r.keys, by omega, fun r0 hr0 => ?_⟩
      refine ⟨_, rfl, r0, _, rfl, SqL.of upd_same, fun r hr' => ⟨r, rfl, ⟨_, SqL.of upd_same⟩, ?_⟩⟩
      have hcut : ∃ ws : List Str, cutV ((sortS us).map V.str) none (some 1) = ws.map V.str ∧ ws = (sortS us).take 1 := by
        unfold cutV
        rw [← List.map_drop, ← List.map_take]
        refine ⟨_, rfl, ?_⟩
        rw [HT.sIx_none, sIx_of (by decide), List.drop_zero, List.length_map]
        cases sortS us <;> simp
      obtain ⟨ws, hws, hws2⟩ := hcut
      have hwl : ws.length ≤ 1 := by rw [hws2, List.length_take]; omega
      have hwm : ∀ w ∈ ws, w ∈ us := fun w hw => by rw [hws2] at hw; exact mem_sortS.mp (List.mem_of_mem_take hw)
      rw [hws]
      have S6 := (S5.trans (Same.updN (o := .lst ((sortS us).map V.str)) hr0)).trans (Same.updN (o := .lst (ws.map V.str)) hr')
      have t0r : t0 ≠ r0 := fun e => by rw [← e, upd_same] at hr0; cases hr0
      have t0r' : t0 ≠ r := fun e => by rw [← e, upd_ne t0r, upd_same] at hr'; cases hr'
      have hr6 : (upd (upd (upd H4 t0 (.lst [])) r0 (.lst ((sortS us).map V.str))) r (.lst (ws.map V.str))) r = some (.lst (ws.map V.str)) := upd_same
      have ht6 : (upd (upd (upd H4 t0 (.lst [])) r0 (.lst ((sortS us).map V.str))) r (.lst (ws.map V.str))) t0 = some (.lst []) := by rw [upd_ne t0r', upd_ne t0r, upd_same]
      have ht40 : H4 t0 = none := ht0
      generalize upd (upd (upd H4 t0 (.lst [])) r0 (.lst ((sortS us).map V.str))) r (.lst (ws.map V.str)) = H6 at S6 hr6 ht6
      refine for_list (xs := ws.map V.str) (fun i σ H7 => ∃ lp x7 ps, σ = [some (.ref a), some (.ref b), some (.ref p), x3, x4, some (.ref lp), some (.ref hp), x7, none, none] ∧ Same H4 H7 ∧ H4 lp = none ∧ H7 r = some (.lst (ws.map V.str)) ∧ PairsAt K H7 lp ps ∧ ps.length ≤ i ∧ ∀ pr ∈ ps, badP us f pr = false) ⟨t0, _, [], rfl, S6, ht40, hr6, ⟨[], ht6, .nil⟩, Nat.le_refl _, fun _ h => absurd h (by simp)⟩ (fun i σ H7 _ pv => ?_) (fun i x σ H7 hx pv => ?_) (fun σ H7 pv => ?_)
      · obtain ⟨_, _, _, rfl, _, _, hR, _⟩ := pv
        exact SqL.of hR
      · obtain ⟨lp, x7, ps, rfl, S7, hlp0, hR7, ⟨zs, hz1, hz2⟩, hpl, hgood⟩ := pv
        have hzl : zs.length = ps.length := by rw [hz2.length, List.length_map]
        rw [List.getElem?_map] at hx
        cases hk : ws[i]? with
        | none => rw [hk] at hx; cases hx
        | some k =>
        rw [hk] at hx
        cases hx
        have hi1 : i < 1 := by have := (List.getElem?_eq_some_iff.mp hk).1; omega
        have hkm : k ∈ us := hwm k (List.mem_of_getElem? hk)
        have hN7 := (hN4.same S7).r
        obtain ⟨rb, hrb, hrbr⟩ := hN7.row (x := k) (hks ▸ hkm)
        have hrow : ((f k).map (·.1)).length ≤ us.length := nd_len (hg.rows.nd k hkm) (hg.rows.inn k hkm)
        refine ⟨_, rfl, _, rfl, _, rfl, p, .ref rb, rfl, hN7.dget hrb, rfl, rb, _, (f k).map (·.1), rfl, hrbr, keysS_encI _, by omega, fun r2 hr2 => ?_⟩
        refine ⟨_, rfl, r2, _, rfl, SqL.of upd_same, fun r3 hr3 => ⟨r3, rfl, ⟨_, SqL.of upd_same⟩, ?_⟩⟩
        have hcut : ∃ ys : List Str, cutV ((sortS ((f k).map (·.1))).map V.str) none (some 1) = ys.map V.str ∧ ys = (sortS ((f k).map (·.1))).take 1 := by
          unfold cutV
          rw [← List.map_drop, ← List.map_take]
          refine ⟨_, rfl, ?_⟩
          rw [HT.sIx_none, sIx_of (by decide), List.drop_zero, List.length_map]
          cases sortS ((f k).map (·.1)) <;> simp
        obtain ⟨ys, hys, hys2⟩ := hcut
        have hyl : ys.length ≤ 1 := by rw [hys2, List.length_take]; omega
        have hym : ∀ y ∈ ys, y ∈ (f k).map (·.1) := fun y hy => by rw [hys2] at hy; exact mem_sortS.mp (List.mem_of_mem_take hy)
        rw [hys]
        have S8 := (Same.updN (o := .lst ((sortS ((f k).map (·.1))).map V.str)) hr2).trans (Same.updN (o := .lst (ys.map V.str)) hr3)
        have hr8 : (upd (upd H7 r2 (.lst ((sortS ((f k).map (·.1))).map V.str))) r3 (.lst (ys.map V.str))) r3 = some (.lst (ys.map V.str)) := upd_same
        generalize upd (upd H7 r2 (.lst ((sortS ((f k).map (·.1))).map V.str))) r3 (.lst (ys.map V.str)) = H8 at S8 hr8
        refine comp_inv ys.length (fun j vs H9 => Same H8 H9 ∧ vs.length = j ∧ j ≤ 1 ∧ Reps K H9 vs (((ys.take j).map fun y => (k, y)).map pairD)) ⟨Same.refl _, rfl, Nat.zero_le _, .nil⟩ (fun j vs H9 pv => szl (by omega)) (fun j vs H9 hj pv => ?_) (fun vs H9 pv => ?_)
        · obtain ⟨S9, hvl, _, hvs⟩ := pv
          obtain ⟨y, hy⟩ : ∃ y, ys[j]? = some y := ⟨_, List.getElem?_eq_getElem hj⟩
          refine ⟨⟨_, .str y, SqL.of (S9 _ _ hr8), by rw [List.getElem?_map, hy]; rfl⟩, ?_⟩
          rintro v H10 ⟨rfl, hv⟩
          have hv := hv _ (SqL.of (S9 _ _ hr8))
          rw [List.getElem?_map, hy] at hv
          cases hv
          simp only [gName, tYes, ↓reduceIte]
          refine ⟨_, rfl, _, rfl, (by show 2 ≤ sizeLine; decide), fun tt ht => nxC hj ⟨S9.trans (Same.updN ht), by simp [hvl], by omega, ?_⟩⟩
          rw [List.take_add_one, hy, List.map_append, List.map_append]
          exact (hvs.sm (Same.updN ht).sm).append (.one (.tup (SqT.of upd_same) (.cons (.str _) (.cons (.str _) .nil))))
        · obtain ⟨S9, hvl, _, hvs⟩ := pv
          rw [List.take_of_length_le (Nat.le_refl _)] at hvs
          refine ⟨⟨_, SqL.of (S9 _ _ hr8), by rw [List.length_map]; exact Nat.le_refl _⟩, fun l1 hl1 => ?_⟩
          have hz9 : (upd H9 l1 (.lst vs)) lp = some (.lst zs) := ((S8.trans S9).trans (Same.updN hl1)) _ _ hz1
          refine ⟨lp, l1, zs, vs, rfl, rfl, hz9, upd_same, sz (by omega), fun l2 hl2 => ?_⟩
          have S10 := (Same.updN (o := .lst vs) hl1).trans (Same.updN (o := .lst (zs ++ vs)) hl2)
          have T10 := (S7.trans S8).trans S9
          refine ⟨l2, _, ps ++ ys.map (fun y => (k, y)), rfl, T10.trans S10, (T10.trans (Same.updN hl1)).free hl2, ((S8.trans S9).trans S10) _ _ hR7, ⟨zs ++ vs, upd_same, ?_⟩, ?_, fun pr hpr => ?_⟩
          · rw [List.map_append]
            exact (hz2.sm ((S8.trans S9).trans S10).sm).append (hvs.sm S10.sm)
          · rw [List.length_append, List.length_map]; omega
          · rcases List.mem_append.mp hpr with d | d
            · exact hgood pr d
            · obtain ⟨y, hy, rfl⟩ := List.mem_map.mp d
              obtain ⟨v, hv⟩ := look_some_iff.mpr (hym y hy)
              unfold badP
              rw [hv, decide_eq_true hkm]; rfl
      · obtain ⟨lp, x7, ps, rfl, S7, hlp0, hR7, ⟨zs, hz1, hz2⟩, hpl, hgood⟩ := pv
        have hfind : ps.find? (badP us f) = none := List.find?_eq_none.mpr fun pr hpr => by rw [hgood pr hpr]; simp
        have hps : ps.length ≤ 1 := by rw [List.length_map] at hpl; omega
        have hH7 := hH4.same S7
        have hN7 := hN4.same S7
        have hcl : hc.length ≤ 12 := by
          have := congrArg List.length hhk
          rw [List.length_map] at this
          omega
        refine ⟨_, rfl, _, rfl, hp, lp, hc, f, zs, ps, rfl, hH7.r, hhk ▸ hg, hcl, SqL.of hz1, hz2, by omega, (fun _ fp H8 hNS8 => ?_), (fun pr hf => ?_)⟩
        · rw [hhk] at hNS8
          obtain ⟨fc, S8, hF8, hfk, hfn⟩ := hNS8
          refine ⟨_, rfl, _, rfl, p, lp, bs, f, zs, ps, rfl, hN7.same S8, hks ▸ hg, hlen, SqL.of (S8 _ _ hz1), hz2.sm S8.sm, fun du H9 S9 hdu => ?_⟩
          rw [hks, hfind] at hdu
          obtain ⟨dq, rfl, dc, _, hD9, hdk, hdn⟩ := hdu
          obtain ⟨_, rr, ee⟩ := joins_left hund hg ps
          have hF9 := hF8.same S9
          have nf : New H4 fp fc := hfn.same S7
          have nd' : New H4 dq dc := hdn.same (S7.trans S8)
          have S49 := (S7.trans S8).trans S9
          have hH9 := hH4.same S49
          have hz9 := (S8.trans S9) _ _ hz1
          have sep : ∀ {Hx : Hp}, (∀ bb, bb ≠ hp → (∀ z ∈ hc, bb ≠ z.2) → bb ≠ lp → Hx bb = H9 bb) → NetAt Hx fp fc (joinsF (fun _ => []) ((linesF us f).filter (keepL ps))) ∧ NetAt Hx dq dc (cutsF f ps) := fun {Hx} e => by
            have a1 : H4 hp ≠ none := by rw [hH4.out]; simp
            have a2 : ∀ z ∈ hc, H4 z.2 ≠ none := fun z hz => by rw [hH4.inn z hz]; simp
            have one : ∀ bb u, H4 bb = none → H9 bb = some (.dK u) → Hx bb = some (.dK u) := fun bb u hb h9 => by
              rw [e bb (fun z => a1 (z ▸ hb)) (fun z hz w => a2 z hz (w ▸ hb)) (ne_of h9 hz9 (by intro z; cases z))]; exact h9
            exact ⟨⟨one _ _ nf.1 hF9.out, fun z hz => one _ _ (nf.2 z hz) (hF9.inn z hz), hF9.ks, hF9.nd⟩, ⟨one _ _ nd'.1 hD9.out, fun z hz => one _ _ (nd'.2 z hz) (hD9.inn z hz), hD9.ks, hD9.nd⟩⟩
          have hlp9 : hp ≠ lp ∧ ∀ z ∈ hc, lp ≠ z.2 := ⟨(fun e => by rw [← e, hH4.out] at hlp0; cases hlp0), (fun z hz e => by rw [e, hH4.inn z hz] at hlp0; cases hlp0)⟩
          refine ⟨_, rfl, hp, _, rfl, .inl hH9.out, fun o H12 fz => forDm hH9.out fz (fun _ σ H => ∃ x7, σ = [some (.ref a), some (.ref b), some (.ref p), x3, x4, some (.ref lp), some (.ref hp), x7, some (.ref fp), some (.ref dq)] ∧ (∀ bb, bb ≠ hp → (∀ z ∈ hc, bb ≠ z.2) → H bb = H9 bb) ∧ H hp = some (.frz o (.dK (encO hc))) ∧ ∀ z ∈ hc, ∃ l, H z.2 = some (.dK l)) (fun e => ?_) (fun _ _ _ h => ?_) (fun j k v σ H13 hk pv => ?_) (fun σ H13 pv => ?_)⟩
          · subst e
            refine ⟨_, rfl, fun bb h1 _ => by rw [upd_ne h1], upd_same, fun z hz => ⟨encI (f z.1), ?_⟩⟩
            rw [upd_ne (hH9.ne (mem_addrOf hH9.ks (x := z.1) (b := z.2) hz))]
            exact hH9.inn z hz
          · obtain ⟨_, _, _, h, _⟩ := h; exact h
          · obtain ⟨x7, rfl, hrest, h7, hall⟩ := pv
            obtain ⟨z, hz, rfl, rfl⟩ := encO_get hk
            have had := mem_addrOf hH9.ks (x := z.1) (b := z.2) hz
            obtain ⟨l, hl⟩ := hall z hz
            refine ⟨_, rfl, _, rfl, hp, .ref z.2, rfl, .inl ⟨encO hc, Sum.inr z.1, .inr ⟨o, h7⟩, rfl, by rw [valV_encO, had]; rfl⟩, .inr (.inr (.inl ⟨rfl, .inl ⟨_, hl⟩⟩)), z.2, _, rfl, rfl, hl, _, rfl, fun bb h1 h2 => by rw [upd_ne (h2 z hz)]; exact hrest bb h1 h2, ?_, fun y hy => ?_⟩
            · rw [upd_ne (Ne.symm (hH9.ne had))]; exact h7
            · by_cases e : y.2 = z.2
              · exact ⟨[], by rw [e, upd_same]⟩
              · obtain ⟨l', hl'⟩ := hall y hy
                exact ⟨l', by rw [upd_ne e]; exact hl'⟩
          · obtain ⟨x7, rfl, hrest, h7, hall⟩ := pv
            have hz13 : ∀ o1 o2 : HO, (upd (upd H13 hp o1) hp o2) lp = some (.lst zs) := fun o1 o2 => by rw [upd_ne (Ne.symm hlp9.1), upd_ne (Ne.symm hlp9.1), hrest lp (Ne.symm hlp9.1) hlp9.2]; exact hz9
            refine ⟨_, rfl, .inr (.inr (.inl ⟨rfl, .inl ⟨_, upd_same⟩⟩)), hp, _, rfl, rfl, upd_same, ?_⟩
            refine ⟨_, rfl, .inl ⟨rfl, _, SqL.of (hz13 _ _)⟩, lp, _, rfl, rfl, hz13 _ _, ?_⟩
            obtain ⟨n1, n2⟩ := sep (Hx := upd (upd (upd H13 hp (.dK (encO hc))) hp (.dK [])) lp (.lst [])) fun bb h1 h2 h3 => by rw [upd_ne h3, upd_ne h1, upd_ne h1]; exact hrest bb h1 h2
            obtain ⟨pp, qq, d, d', e1, e2, r1, r2, deq, hdd, _⟩ := twin_nets (K := K) (H0 := H4) n1 n2 nf hfk hdk ee rr fun x hx => cutsF_nd (hg.rows.nd x hx)
            exact ⟨_, rfl, _, rfl, _, _, d, d', rfl, rfl, r1, r2, deq, hdd, q _⟩
        · rw [hhk, hfind] at hf; cases hf
end
end K05

set_option Elab.async false
set_option linter.all false
open PySem PySem.W PyProof.Rows
set_option maxRecDepth 100000 in
set_option maxHeartbeats 0 in
theorem PySem.Challenge.cw_spareline_k05_less_and_joined_holds : PySem.Challenge.rw_spareline_k05_less_and_joined.Holds := by
  w_on; o_law; k_head; (case hw => w_witness2)
  k_fill
  refine L2.walk_ofK (l := PySem.Challenge.rw_spareline_k05_less_and_joined) (n := 63) (k := 6) (x := "_law_script") (CX := L2.CX0) (sp := K05.sp_law) rfl (by decide) rfl ⟨rfl, by decide, by decide⟩ (fun w h Y => PySem.W.kIn_of Y) ?F ?S ?C
  case F =>
    intro w mg fa h KX G hmg
    have h_lines_in : ∃ (f : Addr) (fd : FuncData), L2.Top (L2.KOf KX) mg "lines_in" K05.s_lines_in ["net"] f fd := by
      dsimp only [L2.KOf]
      refine' ⟨_, _, L2.top_mk (st := K05.s_lines_in) KX G ?a ?l ?c ?k (fun _ _ _ _ _ _ us hl => match us, hl with | [_], _ => rfl)⟩
      (case a => k_is); (case l => k_is); (case c => k_is); (case k => k_is)
    have h_net_less : ∃ (f : Addr) (fd : FuncData), L2.Top (L2.KOf KX) mg "net_less" K05.s_net_less ["net", "lines"] f fd := by
      dsimp only [L2.KOf]
      refine' ⟨_, _, L2.top_mk (st := K05.s_net_less) KX G ?a ?l ?c ?k (fun _ _ _ _ _ _ us hl => match us, hl with | [_, _], _ => rfl)⟩
      (case a => k_is); (case l => k_is); (case c => k_is); (case k => k_is)
    have h_net_joined : ∃ (f : Addr) (fd : FuncData), L2.Top (L2.KOf KX) mg "net_joined" K05.s_net_joined ["net", "lines"] f fd := by
      dsimp only [L2.KOf]
      refine' ⟨_, _, L2.top_mk (st := K05.s_net_joined) KX G ?a ?l ?c ?k (fun _ _ _ _ _ _ us hl => match us, hl with | [_, _], _ => rfl)⟩
      (case a => k_is); (case l => k_is); (case c => k_is); (case k => k_is)
    have h_net_of : ∃ (f : Addr) (fd : FuncData), L2.Top (L2.KOf KX) mg "net_of" K05.s_net_of ["places", "lines"] f fd := by
      dsimp only [L2.KOf]
      refine' ⟨_, _, L2.top_mk (st := K05.s_net_of) KX G ?a ?l ?c ?k (fun _ _ _ _ _ _ us hl => match us, hl with | [_, _], _ => rfl)⟩
      (case a => k_is); (case l => k_is); (case c => k_is); (case k => k_is)
    have h_join_line : ∃ (f : Addr) (fd : FuncData), L2.Top (L2.KOf KX) mg "join_line" K05.s_join_line ["net", "one", "other", "many"] f fd := by
      dsimp only [L2.KOf]
      refine' ⟨_, _, L2.top_mk (st := K05.s_join_line) KX G ?a ?l ?c ?k (fun _ _ _ _ _ _ us hl => match us, hl with | [_, _, _, _], _ => rfl)⟩
      (case a => k_is); (case l => k_is); (case c => k_is); (case k => k_is)
    have h_has_place : ∃ (f : Addr) (fd : FuncData), L2.Top (L2.KOf KX) mg "has_place" K05.s_has_place ["net", "thing"] f fd := by
      dsimp only [L2.KOf]
      refine' ⟨_, _, L2.top_mk (st := K05.s_has_place) KX G ?a ?l ?c ?k (fun _ _ _ _ _ _ us hl => match us, hl with | [_, _], _ => rfl)⟩
      (case a => k_is); (case l => k_is); (case c => k_is); (case k => k_is)
    have h_has_line : ∃ (f : Addr) (fd : FuncData), L2.Top (L2.KOf KX) mg "has_line" K05.s_has_line ["net", "one", "other"] f fd := by
      dsimp only [L2.KOf]
      refine' ⟨_, _, L2.top_mk (st := K05.s_has_line) KX G ?a ?l ?c ?k (fun _ _ _ _ _ _ us hl => match us, hl with | [_, _, _], _ => rfl)⟩
      (case a => k_is); (case l => k_is); (case c => k_is); (case k => k_is)
    have h_l_cell_at : ∃ (f : Addr) (fd : FuncData), L2.Top (L2.KOf KX) mg "_law_cell_at" K05.s_l_cell_at ["_law_script", "_law_k"] f fd := by
      dsimp only [L2.KOf]
      refine' ⟨_, _, L2.top_mk (st := K05.s_l_cell_at) KX G ?a ?l ?c ?k (fun _ _ _ _ _ _ us hl => match us, hl with | [_, _], _ => rfl)⟩
      (case a => k_is); (case l => k_is); (case c => k_is); (case k => k_is)
    have h_l_mix : ∃ (f : Addr) (fd : FuncData), L2.Top (L2.KOf KX) mg "_law_mix" K05.s_l_mix ["_law_cell", "_law_k"] f fd := by
      dsimp only [L2.KOf]
      refine' ⟨_, _, L2.top_mk (st := K05.s_l_mix) KX G ?a ?l ?c ?k (fun _ _ _ _ _ _ us hl => match us, hl with | [_, _], _ => rfl)⟩
      (case a => k_is); (case l => k_is); (case c => k_is); (case k => k_is)
    have h_l_names : ∃ (f : Addr) (fd : FuncData), L2.Top (L2.KOf KX) mg "_law_names" K05.s_l_names ["_law_cell", "_law_many"] f fd := by
      dsimp only [L2.KOf]
      refine' ⟨_, _, L2.top_mk (st := K05.s_l_names) KX G ?a ?l ?c ?k (fun _ _ _ _ _ _ us hl => match us, hl with | [_, _], _ => rfl)⟩
      (case a => k_is); (case l => k_is); (case c => k_is); (case k => k_is)
    have h_l_net : ∃ (f : Addr) (fd : FuncData), L2.Top (L2.KOf KX) mg "_law_net" K05.s_l_net ["_law_script", "_law_names_here", "_law_bound"] f fd := by
      dsimp only [L2.KOf]
      refine' ⟨_, _, L2.top_mk (st := K05.s_l_net) KX G ?a ?l ?c ?k (fun _ _ _ _ _ _ us hl => match us, hl with | [_, _, _], _ => rfl)⟩
      (case a => k_is); (case l => k_is); (case c => k_is); (case k => k_is)
    have h_l_copied : ∃ (f : Addr) (fd : FuncData), L2.Top (L2.KOf KX) mg "_law_copied" K05.s_l_copied ["_law_net_here"] f fd := by
      dsimp only [L2.KOf]
      refine' ⟨_, _, L2.top_mk (st := K05.s_l_copied) KX G ?a ?l ?c ?k (fun _ _ _ _ _ _ us hl => match us, hl with | [_], _ => rfl)⟩
      (case a => k_is); (case l => k_is); (case c => k_is); (case k => k_is)
    have h_l_some_lines : ∃ (f : Addr) (fd : FuncData), L2.Top (L2.KOf KX) mg "_law_some_lines" K05.s_l_some_lines ["_law_net_here", "_law_cell"] f fd := by
      dsimp only [L2.KOf]
      refine' ⟨_, _, L2.top_mk (st := K05.s_l_some_lines) KX G ?a ?l ?c ?k (fun _ _ _ _ _ _ us hl => match us, hl with | [_, _], _ => rfl)⟩
      (case a => k_is); (case l => k_is); (case c => k_is); (case k => k_is)
    have h_l_less_due : ∃ (f : Addr) (fd : FuncData), L2.Top (L2.KOf KX) mg "_law_less_due" K05.s_l_less_due ["_law_net_here", "_law_lines"] f fd := by
      dsimp only [L2.KOf]
      refine' ⟨_, _, L2.top_mk (st := K05.s_l_less_due) KX G ?a ?l ?c ?k (fun _ _ _ _ _ _ us hl => match us, hl with | [_, _], _ => rfl)⟩
      (case a => k_is); (case l => k_is); (case c => k_is); (case k => k_is)
    have h_l_less : ∃ (f : Addr) (fd : FuncData), L2.Top (L2.KOf KX) mg "_law_less" K05.s_l_less ["_law_net_here", "_law_lines"] f fd := by
      dsimp only [L2.KOf]
      refine' ⟨_, _, L2.top_mk (st := K05.s_l_less) KX G ?a ?l ?c ?k (fun _ _ _ _ _ _ us hl => match us, hl with | [_, _], _ => rfl)⟩
      (case a => k_is); (case l => k_is); (case c => k_is); (case k => k_is)
    have h_l_joins : ∃ (f : Addr) (fd : FuncData), L2.Top (L2.KOf KX) mg "_law_joins" K05.s_l_joins ["_law_net_here", "_law_cell"] f fd := by
      dsimp only [L2.KOf]
      refine' ⟨_, _, L2.top_mk (st := K05.s_l_joins) KX G ?a ?l ?c ?k (fun _ _ _ _ _ _ us hl => match us, hl with | [_, _], _ => rfl)⟩
      (case a => k_is); (case l => k_is); (case c => k_is); (case k => k_is)
    have h_l_joined_due : ∃ (f : Addr) (fd : FuncData), L2.Top (L2.KOf KX) mg "_law_joined_due" K05.s_l_joined_due ["_law_net_here", "_law_lines"] f fd := by
      dsimp only [L2.KOf]
      refine' ⟨_, _, L2.top_mk (st := K05.s_l_joined_due) KX G ?a ?l ?c ?k (fun _ _ _ _ _ _ us hl => match us, hl with | [_, _], _ => rfl)⟩
      (case a => k_is); (case l => k_is); (case c => k_is); (case k => k_is)
    have h_l_good : ∃ (f : Addr) (fd : FuncData), L2.Top (L2.KOf KX) mg "_law_good" K05.s_l_good ["_law_net_here", "_law_cell"] f fd := by
      dsimp only [L2.KOf]
      refine' ⟨_, _, L2.top_mk (st := K05.s_l_good) KX G ?a ?l ?c ?k (fun _ _ _ _ _ _ us hl => match us, hl with | [_, _], _ => rfl)⟩
      (case a => k_is); (case l => k_is); (case c => k_is); (case k => k_is)
    have h_law : ∃ (f : Addr) (fd : FuncData), L2.Top (L2.KOf KX) mg "law" K05.s_law ["_law_script"] f fd ∧ ∀ (s : Shared) (u : Value), BindsTo s fd ⟨[u], []⟩ [("_law_script", u)] := by
      dsimp only [L2.KOf]
      refine' ⟨_, _, L2.top_mk (st := K05.s_law) KX G ?a ?l ?c ?k (fun _ _ _ _ _ _ us hl => match us, hl with | [_], _ => rfl), fun s u => .of_eq rfl⟩
      (case a => k_is); (case l => k_is); (case c => k_is); (case k => k_is)
    have b_dict : PySem.W.nsIn (L2.KOf KX) mainGlobals "dict" = some none := by
      dsimp only [L2.KOf]
      k_is
    have b_enumerate : PySem.W.nsIn (L2.KOf KX) mainGlobals "enumerate" = some none := by
      dsimp only [L2.KOf]
      k_is
    have b_isinstance : PySem.W.nsIn (L2.KOf KX) mainGlobals "isinstance" = some none := by
      dsimp only [L2.KOf]
      k_is
    have b_len : PySem.W.nsIn (L2.KOf KX) mainGlobals "len" = some none := by
      dsimp only [L2.KOf]
      k_is
    have b_list : PySem.W.nsIn (L2.KOf KX) mainGlobals "list" = some none := by
      dsimp only [L2.KOf]
      k_is
    have b_max : PySem.W.nsIn (L2.KOf KX) mainGlobals "max" = some none := by
      dsimp only [L2.KOf]
      k_is
    have b_min : PySem.W.nsIn (L2.KOf KX) mainGlobals "min" = some none := by
      dsimp only [L2.KOf]
      k_is
    have b_range : PySem.W.nsIn (L2.KOf KX) mainGlobals "range" = some none := by
      dsimp only [L2.KOf]
      k_is
    have b_sorted : PySem.W.nsIn (L2.KOf KX) mainGlobals "sorted" = some none := by
      dsimp only [L2.KOf]
      k_is
    have b_str : PySem.W.nsIn (L2.KOf KX) mainGlobals "str" = some none := by
      dsimp only [L2.KOf]
      k_is
    have p_NoPlace : ∃ v : Value, PySem.W.nsIn (L2.KOf KX) mainGlobals "NoPlace" = some (some v) ∧ ∃ C : Addr, v = .ref C := by
      dsimp only [L2.KOf]
      refine' L2.cst_mk (P := fun v => ∃ C : Addr, v = .ref C) ?e ?f
      (case e => k_is); (case f => exact ⟨_, rfl⟩)
    obtain ⟨_, p_NoPlace, a_NoPlace, rfl⟩ := p_NoPlace
    have p_OldLine : ∃ v : Value, PySem.W.nsIn (L2.KOf KX) mainGlobals "OldLine" = some (some v) ∧ ∃ C : Addr, v = .ref C := by
      dsimp only [L2.KOf]
      refine' L2.cst_mk (P := fun v => ∃ C : Addr, v = .ref C) ?e ?f
      (case e => k_is); (case f => exact ⟨_, rfl⟩)
    obtain ⟨_, p_OldLine, a_OldLine, rfl⟩ := p_OldLine
    have h_NoLine : ∃ (C D fI : Addr) (fd : FuncData), L2.XTop (L2.KOf KX) mg "NoLine" "NoLine.__init__" K05.s_NoLine_i ["self", "one", "other"] C D fI fd ∧ PySem.W.nsIn (L2.KOf KX) mainGlobals "NetError" = some (some (.ref D)) ∧ L2.NoAttr (L2.KOf KX) C "one" ∧ L2.NoAttr (L2.KOf KX) C "other" ∧ PySem.W.kitOne (L2.KOf KX) (.ref C) (.ref D) = some true := by
      dsimp only [L2.KOf]
      refine' ⟨_, _, _, _, L2.xtop_mk (st := K05.s_NoLine_i) KX G ?a ?lC ?eC ?lD ?lN ?hes ?iD ?ini ?sa ?fn ?kp ?ga ?gt ?cl ?l ?c ?k (fun _ _ _ _ _ _ us hl => match us, hl with | [_, _, _], _ => rfl), ?n, ?na0, ?na1, ?k0⟩
      (case a => k_is); (case lC => k_is); (case eC => exact ⟨_, _, _, _, _, _, _, _, _, _, _, _, _, _, rfl⟩); (case lD => k_is); (case lN => k_is); (case hes => simp); (case iD => k_is); (case ini => k_is); (case sa => k_is); (case fn => k_is); (case kp => k_is)
      (case ga => k_is); (case gt => k_is); (case cl => k_is); (case l => k_is); (case c => k_is); (case k => k_is); (case n => k_is)
      (case na0 => show findIn _ _ _ = some none; k_is)
      (case na1 => show findIn _ _ _ = some none; k_is)
      (case k0 => kit_is)
    obtain ⟨a_NoLine, a_NetError, a_NoLine_i, d_NoLine_i, h_NoLine, p_NetError, na_NoLine_one, na_NoLine_other, k_NoLine_NetError⟩ := h_NoLine
    have k_NoLine_NoPlace : PySem.W.kitOne (L2.KOf KX) (.ref a_NoLine) (.ref a_NoPlace) = some false := by
      have z : ∃ u v : Value, PySem.W.nsIn (L2.KOf KX) mainGlobals "NoLine" = some (some u) ∧ PySem.W.nsIn (L2.KOf KX) mainGlobals "NoPlace" = some (some v) ∧ PySem.W.kitOne (L2.KOf KX) u v = some false := by
        dsimp only [L2.KOf]
        refine' L2.kit_mk ?a ?b ?c
        (case a => k_is); (case b => k_is); (case c => kit_is)
      obtain ⟨u, v, z1, z2, z3⟩ := z
      exact L2.kit_by (PySem.W.mg_of KX G z1) h_NoLine.mg (PySem.W.mg_of KX G z2) (PySem.W.mg_of KX G p_NoPlace) z3
    have k_NoLine_OldLine : PySem.W.kitOne (L2.KOf KX) (.ref a_NoLine) (.ref a_OldLine) = some false := by
      have z : ∃ u v : Value, PySem.W.nsIn (L2.KOf KX) mainGlobals "NoLine" = some (some u) ∧ PySem.W.nsIn (L2.KOf KX) mainGlobals "OldLine" = some (some v) ∧ PySem.W.kitOne (L2.KOf KX) u v = some false := by
        dsimp only [L2.KOf]
        refine' L2.kit_mk ?a ?b ?c
        (case a => k_is); (case b => k_is); (case c => kit_is)
      obtain ⟨u, v, z1, z2, z3⟩ := z
      exact L2.kit_by (PySem.W.mg_of KX G z1) h_NoLine.mg (PySem.W.mg_of KX G z2) (PySem.W.mg_of KX G p_OldLine) z3
    obtain ⟨a_lines_in, d_lines_in, h_lines_in⟩ := h_lines_in
    obtain ⟨a_net_less, d_net_less, h_net_less⟩ := h_net_less
    obtain ⟨a_net_joined, d_net_joined, h_net_joined⟩ := h_net_joined
    obtain ⟨a_net_of, d_net_of, h_net_of⟩ := h_net_of
    obtain ⟨a_join_line, d_join_line, h_join_line⟩ := h_join_line
    obtain ⟨a_has_place, d_has_place, h_has_place⟩ := h_has_place
    obtain ⟨a_has_line, d_has_line, h_has_line⟩ := h_has_line
    obtain ⟨a_l_cell_at, d_l_cell_at, h_l_cell_at⟩ := h_l_cell_at
    obtain ⟨a_l_mix, d_l_mix, h_l_mix⟩ := h_l_mix
    obtain ⟨a_l_names, d_l_names, h_l_names⟩ := h_l_names
    obtain ⟨a_l_net, d_l_net, h_l_net⟩ := h_l_net
    obtain ⟨a_l_copied, d_l_copied, h_l_copied⟩ := h_l_copied
    obtain ⟨a_l_some_lines, d_l_some_lines, h_l_some_lines⟩ := h_l_some_lines
    obtain ⟨a_l_less_due, d_l_less_due, h_l_less_due⟩ := h_l_less_due
    obtain ⟨a_l_less, d_l_less, h_l_less⟩ := h_l_less
    obtain ⟨a_l_joins, d_l_joins, h_l_joins⟩ := h_l_joins
    obtain ⟨a_l_joined_due, d_l_joined_due, h_l_joined_due⟩ := h_l_joined_due
    obtain ⟨a_l_good, d_l_good, h_l_good⟩ := h_l_good
    obtain ⟨a_law, d_law, h_law, hlaw⟩ := h_law
    have T : K05.Txt (L2.KOf KX) mg ⟨a_lines_in, d_lines_in, a_net_less, d_net_less, a_net_joined, d_net_joined, a_net_of, d_net_of, a_join_line, d_join_line, a_has_place, d_has_place, a_has_line, d_has_line, a_l_cell_at, d_l_cell_at, a_l_mix, d_l_mix, a_l_names, d_l_names, a_l_net, d_l_net, a_l_copied, d_l_copied, a_l_some_lines, d_l_some_lines, a_l_less_due, d_l_less_due, a_l_less, d_l_less, a_l_joins, d_l_joins, a_l_joined_due, d_l_joined_due, a_l_good, d_l_good, a_law, d_law, a_NoLine, a_NoLine_i, d_NoLine_i, a_NetError, a_NoPlace, a_OldLine⟩ := ⟨h_lines_in, h_net_less, h_net_joined, h_net_of, h_join_line, h_has_place, h_has_line, h_l_cell_at, h_l_mix, h_l_names, h_l_net, h_l_copied, h_l_some_lines, h_l_less_due, h_l_less, h_l_joins, h_l_joined_due, h_l_good, h_law, PySem.W.mg_none_of KX G b_dict, PySem.W.mg_none_of KX G b_enumerate, PySem.W.mg_none_of KX G b_isinstance, PySem.W.mg_none_of KX G b_len, PySem.W.mg_none_of KX G b_list, PySem.W.mg_none_of KX G b_max, PySem.W.mg_none_of KX G b_min, PySem.W.mg_none_of KX G b_range, PySem.W.mg_none_of KX G b_sorted, PySem.W.mg_none_of KX G b_str, h_NoLine, na_NoLine_one, na_NoLine_other, PySem.W.mg_of KX G p_NetError, PySem.W.mg_of KX G p_NoPlace, PySem.W.mg_of KX G p_OldLine, k_NoLine_NetError, k_NoLine_NoPlace, k_NoLine_OldLine⟩
    have e0 := hmg.symm.trans T.f_law.mg
    cases e0
    exact ⟨_, hlaw, fun base kb nb => K05.ok_law T⟩
  case S =>
    intro K H a ns hl hO hS
    exact ⟨a, ns, rfl, hS, fun _ => rfl⟩
  case C => exact fun H s e s' h => h

