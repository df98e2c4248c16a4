import PyProof.Rows.All
import Wide.All
import OpenK.AllK
import Wide.FinOn
import Lean
import PyProof.EqAt
import PyProof.EqKinds
import PyProof.TupleCall
import PyProof.InstStoreFacts
import PyProof.ExcArgs
import KE.KIsAll
import KE.RegKIsAll
import KE.IntTextLaws
import OpenK.KOwn
import PyProof.NeKinds
import PyProof.Rows.EqBoolInt
import PyProof.FString5
import PyProof.EnumStmt
import PySem.Challenge.RW_spareline_k01_names_strengths_numbers
set_option Elab.async false
set_option linter.all false
set_option maxRecDepth 100000
/-! THE HAND LAYER, for ints, bools, texts, own classes, LISTS and tuples (index, slices, in, append, pop ..), calls, loops. Paste it whole ahead of your own text; what your proof does not reach may be deleted. -/
namespace L2
open PySem PySem.Spec PyProof.Rows

/-- a key: an int or a str -/
abbrev Key := Sum Int Str
def keyIs : Key → Value → Bool
  | .inl k, v => Value.isInt k v
  | .inr x, v => Value.isStrOf x v
def keyH (w : World) : Key → Int
  | .inl k => hashInt k
  | .inr x => hashStr w x
theorem keyIs_shape : ∀ {k : Key} {v : Value}, keyIs k v = true → (∃ i t, k = Sum.inl i ∧ v = Value.int i t) ∨ (∃ x t, k = Sum.inr x ∧ v = Value.str x t)
  | .inl i, v, h => by
    obtain ⟨t, e⟩ := Value.isInt_shape (k := i) (v := v) h
    exact .inl ⟨i, t, rfl, e⟩
  | .inr x, v, h => by
    obtain ⟨t, e⟩ := Value.isStrOf_shape (x := x) (v := v) h
    exact .inr ⟨x, t, rfl, e⟩
theorem key_ll (a b : Int) : decide ((Sum.inl a : Key) = Sum.inl b) = (a == b) := by
  by_cases e : a = b
  · subst e; simp
  · have h : ¬ (Sum.inl a : Key) = Sum.inl b := fun q => e (Sum.inl.inj q)
    rw [decide_eq_false h]
    exact (beq_eq_false_iff_ne.mpr e).symm
theorem key_rr (a b : Str) : decide ((Sum.inr a : Key) = Sum.inr b) = decide (a = b) := by
  by_cases e : a = b
  · subst e; simp
  · have h : ¬ (Sum.inr a : Key) = Sum.inr b := fun q => e (Sum.inr.inj q)
    rw [decide_eq_false h, decide_eq_false e]
theorem key_lr (a : Int) (b : Str) : decide ((Sum.inl a : Key) = Sum.inr b) = false := decide_eq_false (fun q => nomatch q)
theorem key_rl (a : Str) (b : Int) : decide ((Sum.inr a : Key) = Sum.inl b) = false := decide_eq_false (fun q => nomatch q)

def mixKind (prog : Program) (w : World) : PySem.KeyKind prog w Key where
  is := keyIs
  hash := keyH w
  inj := fun v a b ha hb => by
    rcases keyIs_shape ha with ⟨i, t, rfl, rfl⟩ | ⟨x, t, rfl, rfl⟩
    · rcases keyIs_shape hb with ⟨j, u, rfl, e⟩ | ⟨y, u, rfl, e⟩
      · injection e with e1 _; rw [e1]
      · exact nomatch e
    · rcases keyIs_shape hb with ⟨j, u, rfl, e⟩ | ⟨y, u, rfl, e⟩
      · exact nomatch e
      · injection e with e1 _; rw [e1]
  byValue := fun k v h => by
    rcases keyIs_shape h with ⟨i, t, rfl, rfl⟩ | ⟨x, t, rfl, rfl⟩ <;> rfl
  pyHash := fun hv h => by
    rcases keyIs_shape hv with ⟨i, t, rfl, rfl⟩ | ⟨x, t, rfl, rfl⟩
    · exact wpAny_pyHash_int h
    · exact wpAny_pyHash_str h
  eqBool := fun hu hv h => by
    rcases keyIs_shape hu with ⟨i, t, rfl, rfl⟩ | ⟨x, t, rfl, rfl⟩
    · rcases keyIs_shape hv with ⟨j, u, rfl, rfl⟩ | ⟨y, u, rfl, rfl⟩
      · rw [key_ll] at h; exact wpAny_eqBool_int h
      · rw [key_lr] at h; exact SeqAt.EqAt.int_str i t y u _ _ _ _ h
    · rcases keyIs_shape hv with ⟨j, u, rfl, rfl⟩ | ⟨y, u, rfl, rfl⟩
      · rw [key_rl] at h; exact SeqAt.EqAt.str_int x t j u _ _ _ _ h
      · rw [key_rr] at h; exact wpAny_eqBool_str h
  «strs» := fun k x t v h => by
    rcases keyIs_shape h with ⟨i, u, rfl, e⟩ | ⟨y, u, rfl, e⟩
    · exact nomatch e
    · injection e with e1 _
      subst e1
      cases v <;> rfl

end L2

namespace L2
open PySem PySem.Spec PyProof.Rows

/-- a value, without the heap -/
inductive V where
  | non | bl (b : Bool) | int (i : Int) | str (x : Str) | byt (b : Array UInt8) | flt (b : UInt64) | ref (a : Addr) | ty (n : String)
  deriving DecidableEq

def RelV : V → Value → Prop
  | .non, u => u = Value.none
  | .bl b, u => u = Value.bool b
  | .int i, u => ∃ t, u = Value.int i t
  | .str x, u => ∃ t, u = Value.str x t
  | .byt b, u => ∃ t, u = Value.bytes b t
  | .flt b, u => ∃ t, u = Value.float b t
  | .ref a, u => u = Value.ref a
  | .ty n, u => u = Value.type n

abbrev Vals : List V → List Value → Prop := Paired RelV
theorem Vals.length {xs : List V} {us : List Value} (r : Vals xs us) : xs.length = us.length := Paired.length r
theorem Vals.get : ∀ {xs : List V} {us : List Value} {i : Nat} {x : V}, Vals xs us → xs[i]? = some x → ∃ u, us[i]? = some u ∧ RelV x u
  | _, _, _, _, .nil, e => by simp at e
  | _, _, 0, _, .cons r _, e => by simp at e; subst e; exact ⟨_, rfl, r⟩
  | _, _, i + 1, x, .cons _ t, e => by
    obtain ⟨u, h1, h2⟩ := Vals.get (i := i) (x := x) t (by simpa using e)
    exact ⟨u, by simpa using h1, h2⟩
theorem Vals.set {x : V} {u : Value} (r : RelV x u) : ∀ {xs : List V} {us : List Value} (i : Nat), Vals xs us → Vals (xs.set i x) (us.set i u)
  | _, _, _, .nil => .nil
  | _, _, 0, .cons _ t => .cons r t
  | _, _, i + 1, .cons q t => .cons q (Vals.set r i t)
theorem Vals.append : ∀ {xs ys : List V} {us ws : List Value}, Vals xs us → Vals ys ws → Vals (xs ++ ys) (us ++ ws)
  | _, _, _, _, .nil, s => s
  | _, _, _, _, .cons r t, s => .cons r (Vals.append t s)
theorem Vals.take : ∀ {xs : List V} {us : List Value} (n : Nat), Vals xs us → Vals (xs.take n) (us.take n)
  | _, _, 0, _ => .nil
  | _, _, _ + 1, .nil => .nil
  | _, _, n + 1, .cons r t => .cons r (Vals.take n t)
theorem Vals.drop : ∀ {xs : List V} {us : List Value} (n : Nat), Vals xs us → Vals (xs.drop n) (us.drop n)
  | _, _, 0, r => r
  | _, _, _ + 1, .nil => .nil
  | _, _, n + 1, .cons _ t => Vals.drop n t

def RelO : Option V → Option Value → Prop
  | some v, some u => RelV v u
  | none, none => True
  | _, _ => False
def KV {κ : Type} : List (κ × V) → List (κ × Value) → Prop := Paired fun (p : κ × V) (q : κ × Value) => p.1 = q.1 ∧ RelV p.2 q.2

/-- a key of a dict (00_mix): an int or a text -/
def kV : Key → V
  | .inl i => .int i
  | .inr x => .str x

/-- what stands at a tracked address -/
inductive HO where
  /-- a list -/
  | lst (xs : List V)
  /-- a tuple (never changes) -/
  | tup (xs : List V)
  /-- a dict whose keys are ints and texts; one whose keys are tuples of ints and texts (the empty one is both) -/
  | dK (kvs : List (Key × V)) | dT (kvs : List (List Key × V))
  /-- a set of ints: its members, its size -/
  | set (S : Int → Bool) (n : Nat)
  /-- an instance of the class at C, its dict at dx, its attributes -/
  | ins (C dx : Addr) (fs : List (Str × V))
  /-- the dict of the instance at x -/
  | own (x : Addr)
  /-- the dict of an exception -/
  | xd (fs : List (Str × V))
  /-- a bound method, f of x -/
  | met (f x : Addr)
  /-- a range object lo, lo + 1, .. below hi -/
  | rng (lo hi : Int)
  /-- a thing that is known to the object (the script; a dict while a loop walks it): read, never written while it is so -/
  | frz (o : Obj) (u : HO)
  /-- a code object's table -/
  | tbl (ps : Array Value)
  /-- any other thing, by what is true of its one object (a def of one's own: SetO a S n := HO.ext fun h => ..) -/
  | ext (φ : Heap → Prop)

abbrev Hp := Addr → Option HO
def upd (H : Hp) (a : Addr) (o : HO) : Hp := fun b => if b = a then some o else H b
theorem upd_same {H : Hp} {a : Addr} {o : HO} : upd H a o a = some o := by unfold upd; rw [if_pos rfl]
theorem upd_ne {H : Hp} {a b : Addr} {o : HO} (h : b ≠ a) : upd H a o b = H b := by unfold upd; rw [if_neg h]
theorem ne_of_none {H : Hp} {a b : Addr} {o : HO} (h : H a = some o) (h' : H b = none) : a ≠ b := by
  intro e; subst e; rw [h] at h'; cases h'

section
variable (P : Program) (w : World)
def ObjOk (H : Hp) (h : Heap) (a : Addr) : HO → Prop
  | .lst xs => xs.length ≤ sizeLine ∧ ∃ (its : List Value) (n : Nat), Vals xs its ∧ h.get? a = some { cls := .type "list", data := .seq its.toArray n }
  | .tup xs => xs.length ≤ sizeLine ∧ ∃ its : List Value, Vals xs its ∧ IsTup h a its.toArray
  | .dK kvs => kvs.length ≤ sizeLine ∧ (a == sysModules) = false ∧ ∃ vs, KV kvs vs ∧ h.DictOf (mixKind P w) a vs
  | .dT kvs => kvs.length ≤ sizeLine ∧ (a == sysModules) = false ∧ ∃ xs : List (List Key × Addr × Value),
      Paired (fun (p : List Key × V) (q : List Key × Addr × Value) => p.1 = q.1 ∧ H q.2.1 = some (.tup (p.1.map kV)) ∧ RelV p.2 q.2.2) kvs xs ∧
      ∃ o es ep, h.get? a = some o ∧ o.ExactDict ∧ o.data = .dict es ep ∧ es.toList = xs.map (entryOfKey (tupleKind (mixKind P w))) ∧ (xs.map (·.1)).Nodup
  | .set S n => h.SetOf (intKind P w) a S n
  | .ins C dx fs => H dx = some (.own a) ∧ fs.length ≤ 1000 ∧ dx ≠ a ∧ h.get? a = some (PySem.W.instObj C dx) ∧
      ∃ mA, h.Ns1 dx mA ∧ (∀ f, RelO (fs.lookup f) (mA f)) ∧ PySem.Within mA (fs.map (·.1))
  | .own _ => ∃ o, h.get? a = some o
  | .xd fs => ∃ mA, h.Ns1 a mA ∧ ∀ f, RelO (fs.lookup f) (mA f)
  | .rng lo hi => ∃ t u v, h.get? a = some { cls := .type "range", data := .fields #[.int lo t, .int hi u, .int 1 v] }
  | .frz o u => h.get? a = some o ∧ ObjOk H h a u
  | .tbl ps => h.get? a = some { cls := .none, data := .fields ps }
  | .met f x => h.get? a = some (PySem.W.methodObj (.ref f) (.ref x))
  | .ext φ => φ h ∧ (∃ o, h.get? a = some o) ∧ ∀ h1 h2 : Heap, φ h1 → (∀ o, h1.get? a = some o → h2.get? a = some o) → φ h2
/-- the abstract heap is held -/
def HOk (H : Hp) (h : Heap) : Prop := ∀ a o, H a = some o → ObjOk P w H h a o
end

section
variable {P : Program} {w : World} {H H' : Hp} {h h' : Heap} {a : Addr} {o : HO}
theorem ObjOk.lt (x : ObjOk P w H h a o) : a < h.objs.size := by
  cases o with
  | lst xs => obtain ⟨_, _, _, _, e⟩ := x; exact Heap.lt_size e
  | tup xs => obtain ⟨_, _, _, p⟩ := x; exact p.lt
  | dK kvs => obtain ⟨_, _, _, _, o, _, _, e, _⟩ := x; exact Heap.lt_size e
  | dT kvs => obtain ⟨_, _, _, _, o, _, _, e, _⟩ := x; exact Heap.lt_size e
  | set S n => obtain ⟨o, _, _, _, e, _⟩ := x; exact Heap.lt_size e
  | ins C dx fs => obtain ⟨_, _, _, e, _⟩ := x; exact Heap.lt_size e
  | own y => obtain ⟨_, e⟩ := x; exact Heap.lt_size e
  | xd fs => obtain ⟨_, ⟨_, _, _, e, _⟩, _⟩ := x; exact Heap.lt_size e
  | rng lo hi => obtain ⟨_, _, _, e⟩ := x; exact Heap.lt_size e
  | frz ob u => obtain ⟨e, _⟩ := x; exact Heap.lt_size e
  | tbl ps => exact Heap.lt_size (show h.get? a = some _ from x)
  | met f y => exact Heap.lt_size (show h.get? a = some _ from x)
  | ext φ => obtain ⟨_, ⟨_, e⟩, _⟩ := x; exact Heap.lt_size e
theorem Paired.mapP {α β : Type} {F G : α → β → Prop} : ∀ {l₁ : List α} {l₂ : List β}, Paired F l₁ l₂ → (∀ a b, F a b → G a b) → Paired G l₁ l₂
  | _, _, .nil, _ => .nil
  | _, _, .cons r t, f => .cons (f _ _ r) (Paired.mapP t f)
/-- what an object's description leans on: its own object, its own dict, the tuples -/
theorem ObjOk.stay (x : ObjOk P w H h a o) (k : ∀ b u, (b = a ∨ H b = some (.own a)) → h.get? b = some u → h'.get? b = some u)
    (ho : ∀ b, H b = some (.own a) → H' b = some (.own a)) (ht : ∀ b xs, H b = some (.tup xs) → H' b = some (.tup xs)) : ObjOk P w H' h' a o := by
  induction o with
  | lst xs => obtain ⟨z, its, n, r, e⟩ := x; exact ⟨z, its, n, r, k _ _ (.inl rfl) e⟩
  | tup xs => obtain ⟨z, its, r, ob, e, c⟩ := x; exact ⟨z, its, r, ob, k _ _ (.inl rfl) e, c⟩
  | dK kvs => obtain ⟨z, y, vs, r, ob, es, ep, e, c⟩ := x; exact ⟨z, y, vs, r, ob, es, ep, k _ _ (.inl rfl) e, c⟩
  | dT kvs =>
    obtain ⟨z, y, xs, r, ob, es, ep, e, c⟩ := x
    exact ⟨z, y, xs, Paired.mapP r fun p q z => ⟨z.1, ht _ _ z.2.1, z.2.2⟩, ob, es, ep, k _ _ (.inl rfl) e, c⟩
  | set S n => obtain ⟨ob, es, ep, t, e, c⟩ := x; exact ⟨ob, es, ep, t, k _ _ (.inl rfl) e, c⟩
  | ins C dx fs =>
    obtain ⟨d, z, ne, e, mA, ⟨od, es, ep, e2, c⟩, r⟩ := x
    exact ⟨ho _ d, z, ne, k _ _ (.inl rfl) e, mA, ⟨od, es, ep, k _ _ (.inr d) e2, c⟩, r⟩
  | own y => obtain ⟨ob, e⟩ := x; exact ⟨ob, k _ _ (.inl rfl) e⟩
  | xd fs => obtain ⟨mA, ⟨od, es, ep, e, c⟩, r⟩ := x; exact ⟨mA, ⟨od, es, ep, k _ _ (.inl rfl) e, c⟩, r⟩
  | rng lo hi => obtain ⟨t, u, v, e⟩ := x; exact ⟨t, u, v, k _ _ (.inl rfl) e⟩
  | frz ob u ih => obtain ⟨e, q⟩ := x; exact ⟨k _ _ (.inl rfl) e, ih q⟩
  | tbl ps =>
    have e : h.get? a = some { cls := .none, data := .fields ps } := x
    show h'.get? a = some { cls := .none, data := .fields ps }
    exact k a _ (.inl rfl) e
  | met f y =>
    have e : h.get? a = some (PySem.W.methodObj (.ref f) (.ref y)) := x
    show h'.get? a = some (PySem.W.methodObj (.ref f) (.ref y))
    exact k a _ (.inl rfl) e
  | ext φ => obtain ⟨p, ⟨o, e⟩, st⟩ := x; exact ⟨st _ _ p fun o q => k _ _ (.inl rfl) q, ⟨o, k _ _ (.inl rfl) e⟩, st⟩
theorem HOk.lt (x : HOk P w H h) (e : H a = some o) : a < h.objs.size := (x a o e).lt
theorem HOk.fresh (x : HOk P w H h) (e : h.objs.size ≤ a) : H a = none := by
  cases q : H a with
  | none => rfl
  | some u => exact absurd (Nat.lt_of_lt_of_le (x.lt q) e) (Nat.lt_irrefl _)
/-- every object of the heap is kept -/
theorem HOk.kept (x : HOk P w H h) (k : ∀ b u, h.get? b = some u → h'.get? b = some u) : HOk P w H h' := fun a o e =>
  (x a o e).stay (fun b u _ q => k b u q) (fun _ q => q) fun _ _ q => q
/-- a new object is laid and tracked -/
theorem HOk.laid (x : HOk P w H h) (k : ∀ b u, h.get? b = some u → h'.get? b = some u) (hp : h.objs.size ≤ a) (new : ObjOk P w (upd H a o) h' a o) : HOk P w (upd H a o) h' := fun b u e => by
  have hn := x.fresh hp
  by_cases hb : b = a
  · subst hb; rw [upd_same] at e; cases e; exact new
  · rw [upd_ne hb] at e
    exact (x b u e).stay (fun c v _ q => k c v q) (fun c q => by rw [upd_ne (ne_of_none q hn)]; exact q) fun c xs q => by rw [upd_ne (ne_of_none q hn)]; exact q
end

/-- what may be read as u: it is u, or a known u -/
def Rd (H : Hp) (a : Addr) (u : HO) : Prop := H a = some u ∨ ∃ o, H a = some (.frz o u)
theorem Rd.of {H : Hp} {a : Addr} {u : HO} (h : H a = some u) : Rd H a u := .inl h
theorem Rd.ok {P : Program} {w : World} {H : Hp} {h : Heap} {a : Addr} {u : HO} (r : Rd H a u) (x : HOk P w H h) : ObjOk P w H h a u := by
  rcases r with r | ⟨o, r⟩
  · exact x a u r
  · obtain ⟨_, q⟩ := x a _ r
    exact q
/-- what may be written -/
def Mut : Option HO → Prop
  | some (.lst _) => True
  | some (.dK _) => True
  | some (.dT _) => True
  | some (.set _ _) => True
  | some (.ins _ _ _) => True
  | some (.ext _) => True
  | _ => False
section
variable {P : Program} {w : World} {H : Hp} {h h' : Heap} {x e : Addr} {o' : HO}
/-- the object at e is changed: x itself, or the dict of the instance x -/
theorem HOk.write (ok : HOk P w H h) (mu : Mut (H x)) (he : e = x ∨ H e = some (.own x)) (k : ∀ b u, b ≠ e → h.get? b = some u → h'.get? b = some u) (heo : ∃ u, h'.get? e = some u)
    (new : ObjOk P w (upd H x o') h' x o') : HOk P w (upd H x o') h' := fun b u q => by
  have nown : ∀ c y, H c = some (.own y) → c ≠ x := fun c y r z => by subst z; rw [r] at mu; exact mu
  have ntup : ∀ c xs, H c = some (.tup xs) → c ≠ x := fun c xs r z => by subst z; rw [r] at mu; exact mu
  by_cases hb : b = x
  · subst hb; rw [upd_same] at q; cases q; exact new
  · rw [upd_ne hb] at q
    by_cases hbe : b = e
    · have q' : H b = some (.own x) := by
        rcases he with z | z
        · exact absurd (hbe.trans z) hb
        · rw [hbe]; exact z
      rw [q] at q'; cases q'
      obtain ⟨v, hv⟩ := heo
      exact ⟨v, by rw [hbe]; exact hv⟩
    · refine (ok b u q).stay (fun c v hc r => k c v ?_ r) (fun c r => by rw [upd_ne (nown c b r)]; exact r) fun c xs r => by rw [upd_ne (ntup c xs r)]; exact r
      rcases hc with rfl | hc
      · exact hbe
      · rintro rfl
        rcases he with z | z
        · exact nown c b hc z
        · rw [hc] at z; cases z; exact hb rfl
end

/-! ### kept unless tracked; of the frames at fs (the callers') the slots may change (an exception that passes writes there); of the records at ex (iterators) nothing is said -/
structure Un (fs ex : List Addr) (H H' : Hp) (h h' : Heap) : Prop where
  keep : ∀ b o, h.get? b = some o → H b = none → b ∉ fs → b ∉ ex → h'.get? b = some o
  slot : ∀ b o, h.get? b = some o → H b = none → b ∈ fs → b ∉ ex → ∃ sl, h'.get? b = some { o with slots := sl }
  free : ∀ b o, h.get? b = some o → H b = none → b ∉ ex → H' b = none
  there : ∀ b o, h.get? b = some o → b ∉ ex → ∃ o', h'.get? b = some o'
  tups : ∀ b xs, H b = some (.tup xs) → H' b = some (.tup xs)
  frzs : ∀ b o u, H b = some (.frz o u) → H' b = some (.frz o u)
  tbls : ∀ b ps, H b = some (.tbl ps) → ∃ more, H' b = some (.tbl (ps ++ more))
section
variable {fs fs' ex ex' : List Addr} {H H1 H2 : Hp} {h h1 h2 h' : Heap} {a x e : Addr} {o : HO}
theorem Un.any (u : Un fs ex H H1 h h1) {b : Addr} {ob : Obj} (q : h.get? b = some ob) (n : H b = none) (hx : b ∉ ex) : ∃ sl, h1.get? b = some { ob with slots := sl } := by
  by_cases hb : b ∈ fs
  · exact u.slot b ob q n hb hx
  · exact ⟨ob.slots, u.keep b ob q n hb hx⟩
theorem Un.trans (a : Un fs ex H H1 h h1) (b : Un fs ex H1 H2 h1 h2) : Un fs ex H H2 h h2 where
  keep := fun c ob q n hc hx => b.keep c ob (a.keep c ob q n hc hx) (a.free c ob q n hx) hc hx
  slot := fun c ob q n hc hx => by
    obtain ⟨sl, e1⟩ := a.slot c ob q n hc hx
    obtain ⟨sl', e2⟩ := b.slot c _ e1 (a.free c ob q n hx) hc hx
    exact ⟨sl', e2⟩
  free := fun c ob q n hx => by
    obtain ⟨o', e1⟩ := a.there c ob q hx
    exact b.free c o' e1 (a.free c ob q n hx) hx
  there := fun c ob q hx => by
    obtain ⟨o', e1⟩ := a.there c ob q hx
    exact b.there c o' e1 hx
  tups := fun c xs q => b.tups c xs (a.tups c xs q)
  frzs := fun c ob xs q => b.frzs c ob xs (a.frzs c ob xs q)
  tbls := fun c ps q => by
    obtain ⟨m1, e1⟩ := a.tbls c ps q
    obtain ⟨m2, e2⟩ := b.tbls c _ e1
    exact ⟨m1 ++ m2, by rw [e2, Array.append_assoc]⟩
theorem Un.kept (k : ∀ b u, h.get? b = some u → h'.get? b = some u) : Un fs ex H H h h' :=
  ⟨fun b ob q _ _ _ => k b ob q, fun b ob q _ _ _ => ⟨ob.slots, k b ob q⟩, fun _ _ _ n _ => n, fun b ob q _ => ⟨ob, k b ob q⟩, fun _ _ q => q, fun _ _ _ q => q, fun _ ps q => ⟨#[], by rw [q]; simp⟩⟩
theorem Un.refl : Un fs ex H H h h := Un.kept fun _ _ q => q
theorem Un.laid (k : ∀ b u, h.get? b = some u → h'.get? b = some u) (hp : h.objs.size ≤ a) (hn : H a = none) : Un fs ex H (upd H a o) h h' where
  keep := fun b u q _ _ _ => k b u q
  slot := fun b u q _ _ _ => ⟨u.slots, k b u q⟩
  free := fun b u q n _ => by rw [upd_ne (Nat.ne_of_lt (Nat.lt_of_lt_of_le (Heap.lt_size q) hp))]; exact n
  there := fun b u q _ => ⟨u, k b u q⟩
  tups := fun b xs q => by rw [upd_ne (ne_of_none q hn)]; exact q
  frzs := fun b u xs q => by rw [upd_ne (ne_of_none q hn)]; exact q
  tbls := fun b ps q => ⟨#[], by rw [upd_ne (ne_of_none q hn), q]; simp⟩
theorem Un.write (mu : Mut (H x)) (he : e = x ∨ H e = some (.own x)) (k : ∀ b u, b ≠ e → h.get? b = some u → h'.get? b = some u) (heo : ∃ u, h'.get? e = some u) : Un fs ex H (upd H x o) h h' := by
  have hx : ∀ b, H b = none → b ≠ x := fun b n z => by subst z; rw [n] at mu; exact mu
  have hb : ∀ b, H b = none → b ≠ e := fun b n z => by
    subst z
    rcases he with r | r
    · exact hx b n r
    · rw [n] at r; cases r
  have hm : ∀ b u, H b = some u → ¬ Mut (some u) → b ≠ x := fun b u q nm z => by subst z; rw [q] at mu; exact nm mu
  refine ⟨fun b u q n _ _ => k b u (hb b n) q, fun b u q n _ _ => ⟨u.slots, k b u (hb b n) q⟩, fun b u q n _ => by rw [upd_ne (hx b n)]; exact n, fun b u q _ => ?_,
    fun b xs q => by rw [upd_ne (hm b _ q fun z => z)]; exact q, fun b u xs q => by rw [upd_ne (hm b _ q fun z => z)]; exact q, fun b ps q => ⟨#[], by rw [upd_ne (hm b _ q fun z => z), q]; simp⟩⟩
  by_cases hbe : b = e
  · subst hbe; exact heo
  · exact ⟨u, k b u hbe q⟩
theorem Un.mono (u : Un fs ex H H1 h h1) (hs : ∀ b ∈ fs, b ∈ fs') (hx : ∀ b ∈ ex, b ∈ ex') : Un fs' ex' H H1 h h1 :=
  ⟨fun b ob q n hb he => u.keep b ob q n (fun z => hb (hs b z)) fun z => he (hx b z), fun _ _ q n _ he => u.any q n fun z => he (hx _ z), fun b ob q n he => u.free b ob q n fun z => he (hx b z), fun b ob q he => u.there b ob q fun z => he (hx b z), u.tups, u.frzs, u.tbls⟩
end

/-! ### the heap without what is tracked -/
def trk (h : Heap) (H : Hp) : List Addr := (List.range h.objs.size).filter fun a => (H a).isSome
def hidT (h : Heap) (H : Hp) : Heap := PySem.W.hideAll h (trk h H)
theorem hidT_size (h : Heap) (H : Hp) : (hidT h H).objs.size = h.objs.size := PySem.W.hideAll_size _ _
theorem hidT_get {h : Heap} {H : Hp} {b : Addr} {o : Obj} (e : h.get? b = some o) (n : H b = none) : (hidT h H).get? b = some o :=
  PySem.W.hideAll_get _ e fun hm => by
    have q : (H b).isSome = true := (List.mem_filter.mp hm).2
    rw [n] at q; simp at q
theorem of_hidT {h : Heap} {H : Hp} {b : Addr} {o : Obj} (e : (hidT h H).get? b = some o) : h.get? b = some o ∧ H b = none := by
  have e' : h.get? b = some o := PySem.W.of_hideAll (trk h H) e
  refine ⟨e', ?_⟩
  cases q : H b with
  | none => rfl
  | some x =>
    have hm : b ∈ trk h H := List.mem_filter.mpr ⟨List.mem_range.mpr (Heap.lt_size e'), by simp [q]⟩
    have z : (hidT h H).get? b = none := PySem.W.hideAll_none (trk h H) hm
    rw [z] at e; cases e

/-! ### OpenK's ledger, filled with every new object but one -/
def allNews (g h : Heap) (L : Addr) : List (Addr × Obj) := (List.range h.objs.size).filterMap fun a => if a = L ∨ (g.get? a).isSome = true then none else (h.get? a).map fun o => (a, o)
def rest (g h : Heap) (L d : Addr) : List (Addr × Obj) := (allNews g h L).filter fun p => decide (p.1 ≠ d)
end L2

namespace L2
open PySem PySem.Spec PyProof.Rows

/-- the module's facts, over the base: the heap at the law's entry without what is tracked there -/
structure Mod (K : PySem.W.Frag) (mg : Str → Option Value) (base : Heap) : Prop where
  kin : K.In base
  glob : base.Ns mainGlobals mg
  blt : ∃ mb, base.Ns builtinsNs mb ∧ ∀ x : Str, x ≠ "__name__" → mb x = bootBuiltins x
  nolimit : base.NoLimit

/-- the context: a def's body (or a comprehension's block) running. base: fixed through the whole law; s₀, H₀: the entry; outer: the frames whose slots others may change (a def's callers); stack: all frames that run;
   ex: iterators that were made ahead of the entry and are walked here (a comprehension's); fn: the names whose cells were made at the entry (a def: all; a comprehension's block: its own); calm: not within an except suite; pn: pins that every state bears; xe: what is wanted of an exception that leaves the code -/
structure Cx where
  prog : Program
  w : World
  K : PySem.W.Frag
  mg : Str → Option Value
  base : Heap
  A : Around
  N : List Str
  s₀ : Shared
  H₀ : Hp
  env : Env
  outer : List Env
  stack : List Env
  ex : List Addr
  fn : Str → Bool
  calm : Bool
  pn : List (Addr × Obj)
  xe : Value → Shared → Prop
/-- the callers' frames -/
def frs (l : List Env) : List Addr := l.filterMap (·.frame)
abbrev Cx.fs (X : Cx) : List Addr := frs X.outer

def Vis (sc : Scope) (x : Str) : Prop := sc.names.lookup x = some .local ∨ sc.names.lookup x = some .cell ∨ sc.names.lookup x = some .free
def Loc (sc : Scope) (x : Str) : Prop := sc.names.lookup x = some .local ∨ sc.names.lookup x = some .cell
def Look (env : Env) (h : Heap) (m : Str → Option Value) (x : Str) (u : Value) : Prop :=
  (env.kindOf x = some .local ∧ m x = some u) ∨ ((env.kindOf x = some .cell ∨ env.kindOf x = some .free) ∧ ∃ c, env.cells.lookup x = some c ∧ h.IsCell c (some u))

structure Cx.Ok (X : Cx) : Prop where
  mod : Mod X.K X.mg X.base
  kind : X.env.scope.kind = .function
  glob : X.env.globals = mainGlobals
  blt : X.env.builtins = builtinsNs
  above : X.s₀.heap.objs.size ≤ X.env.locals
  inj : ∀ x y c, X.env.cells.lookup x = some c → X.env.cells.lookup y = some c → x = y
  has : ∀ x, (X.env.kindOf x = some .cell ∨ X.env.kindOf x = some .free) → ∃ c, X.env.cells.lookup x = some c
  cab : ∀ x c, X.fn x = true → X.env.cells.lookup x = some c → X.s₀.heap.objs.size ≤ c
  hd : X.calm = true → X.A.handled = none
  frames : X.A.frames = some X.stack
  stk : X.stack = X.outer ∨ (X.stack = X.env :: X.outer ∧ X.env.frame = some X.env.locals)
  exf : ∀ b ∈ X.ex, b ≠ X.env.locals ∧ ∀ x c, X.env.cells.lookup x = some c → c ≠ b
  bs : ∀ b o, X.base.get? b = some o → X.s₀.heap.get? b = some o ∧ X.H₀ b = none
  bsz : X.base.objs.size ≤ X.s₀.heap.objs.size
  noex : ∀ b o, X.base.get? b = some o → b ∉ X.ex
  exfs : ∀ b ∈ X.ex, b ∉ X.fs
  funs : X.s₀.heap.FunFrames X.base X.outer
  frf : ∀ b ∈ X.fs, X.H₀ b = none

structure Inv (X : Cx) (pins : List (Addr × Obj)) (σ : List (Option V)) (H : Hp) (s : Shared) : Prop where
  ok : X.Ok
  os : s.os = X.s₀.os
  bare : AllBare s.gens
  base : Un X.fs X.ex X.H₀ H X.s₀.heap s.heap
  loc : ∃ m, s.heap.Ns X.env.locals m ∧ ∀ (i : Nat) (x : Str) (v : V), X.N[i]? = some x → σ[i]? = some (some v) → Vis X.env.scope x → ∃ u, RelV v u ∧ Look X.env s.heap m x u
  cell : ∀ x c, X.env.cells.lookup x = some c → ∃ v, s.heap.IsCell c v
  free : H X.env.locals = none
  freeC : ∀ x c, X.env.cells.lookup x = some c → H c = none
  pin : ∀ p ∈ X.pn ++ pins, s.heap.get? p.1 = some p.2 ∧ H p.1 = none ∧ p.1 ≠ X.env.locals ∧ p.1 ∉ X.fs ∧ ∀ v, p.2.data ≠ .cell v
  hok : HOk X.prog X.w H s.heap
  len : σ.length = X.N.length

section
variable {X : Cx} {pins : List (Addr × Obj)} {σ : List (Option V)} {H H' : Hp} {s : Shared} {h' : Heap}

theorem Cx.Ok.nofr (ok : X.Ok) {b : Addr} {o : Obj} (e : X.base.get? b = some o) : b ∉ X.fs := fun hb => by
  have := (ok.funs.mem hb).1
  rw [e] at this; cases this
theorem Inv.bs (I : Inv X pins σ H s) : ∀ b o, X.base.get? b = some o → s.heap.get? b = some o ∧ H b = none := fun b o e =>
  ⟨I.base.keep b o (I.ok.bs b o e).1 (I.ok.bs b o e).2 (I.ok.nofr e) (I.ok.noex b o e), I.base.free b o (I.ok.bs b o e).1 (I.ok.bs b o e).2 (I.ok.noex b o e)⟩
theorem Inv.bk (I : Inv X pins σ H s) : ∀ b o, X.base.get? b = some o → s.heap.get? b = some o := fun b o e => (I.bs b o e).1
theorem Inv.mod (I : Inv X pins σ H s) : Mod X.K X.mg X.base := I.ok.mod
theorem Inv.kIn (I : Inv X pins σ H s) : X.K.In s.heap := I.ok.mod.kin.keeps I.bk
theorem Inv.nolimit (I : Inv X pins σ H s) : s.heap.NoLimit := I.ok.mod.nolimit.keeps I.bk
theorem Inv.lt (I : Inv X pins σ H s) : X.env.locals < s.heap.objs.size := let ⟨_, hn, _⟩ := I.loc; hn.lt
theorem Inv.sz (I : Inv X pins σ H s) : X.s₀.heap.objs.size ≤ s.heap.objs.size := Nat.le_trans I.ok.above (Nat.le_of_lt I.lt)
theorem Inv.nofs (I : Inv X pins σ H s) {a : Addr} (h : s.heap.objs.size ≤ a) : a ∉ X.fs := fun hb => by
  obtain ⟨_, o, ho, _⟩ := I.ok.funs.mem hb
  exact absurd (Nat.lt_of_lt_of_le (Heap.lt_size ho) (Nat.le_trans I.sz h)) (Nat.lt_irrefl _)
theorem Inv.cne (I : Inv X pins σ H s) : ∀ x c, X.env.cells.lookup x = some c → c ≠ X.env.locals := fun x c e z => by
  obtain ⟨v, o, ho, hd⟩ := I.cell x c e
  obtain ⟨m, ⟨o', es, ep, ho', hd', _⟩, _⟩ := I.loc
  rw [z, ho'] at ho; cases ho; rw [hd'] at hd; cases hd
theorem Inv.funs (I : Inv X pins σ H s) : s.heap.FunFrames X.base X.outer := by
  have all : ∀ (l : List Env), (∀ b ∈ frs l, b ∈ X.fs) → X.s₀.heap.FunFrames X.base l → s.heap.FunFrames X.base l := by
    intro l
    induction l with
    | nil => intro _ _; trivial
    | cons env r ih =>
      intro hs hl
      obtain ⟨hk, ⟨L, o, hf, hn, ho, hd⟩, hr⟩ := hl
      have hL : L ∈ X.fs := hs L (by unfold frs; rw [List.filterMap_cons, hf]; exact List.mem_cons_self)
      obtain ⟨sl, e⟩ := I.base.slot L o ho (I.ok.frf L hL) hL fun z => I.ok.exfs L z hL
      exact ⟨hk, ⟨L, _, hf, hn, e, hd⟩, ih (fun b hb => hs b (by unfold frs; rw [List.filterMap_cons, hf]; exact List.mem_cons_of_mem _ hb)) hr⟩
  exact all X.outer (fun _ hb => hb) I.ok.funs

/-- the frames that run, for a call -/
theorem Inv.stack (I : Inv X pins σ H s) : s.heap.FunFrames X.base X.stack := by
  rcases I.ok.stk with e | ⟨e, hf⟩
  · rw [e]; exact I.funs
  · rw [e]
    obtain ⟨m, hn, _⟩ := I.loc
    refine .cons (by rw [I.ok.kind]; decide) hf hn ?_ I.funs
    exact Heap.get?_none_of_le (Nat.le_trans I.ok.bsz I.ok.above)
theorem Inv.stkSub (I : Inv X pins σ H s) : ∀ b ∈ frs X.stack, b ∈ X.env.locals :: X.fs := fun b hb => by
  rcases I.ok.stk with e | ⟨e, hf⟩
  · rw [e] at hb; exact List.mem_cons_of_mem _ hb
  · rw [e] at hb
    unfold frs at hb
    rw [List.filterMap_cons, hf] at hb
    exact hb
theorem Inv.stkFree (I : Inv X pins σ H s) : ∀ b ∈ frs X.stack, H b = none := fun b hb => by
  rcases List.mem_cons.mp (I.stkSub b hb) with e | hb
  · rw [e]; exact I.free
  · obtain ⟨_, o, ho, _⟩ := I.ok.funs.mem hb
    exact I.base.free b o ho (I.ok.frf b hb) fun z => I.ok.exfs b z hb

/-- THE STEP: the untracked objects but the frame and the records at ch are kept (the callers' frames up to slots), the frame's map is kept, the new abstract heap is held -/
theorem Inv.step {g' : Array GenState} {t' : Nat} {d' : Drawn} {ch : List Addr} (I : Inv X pins σ H s)
    (hch : ∀ b ∈ ch, (b ∈ X.ex ∨ X.s₀.heap.objs.size ≤ b) ∧ b ≠ X.env.locals ∧ (∀ x c, X.env.cells.lookup x = some c → c ≠ b) ∧ ∀ p ∈ X.pn ++ pins, p.1 ≠ b)
    (keep : ∀ b o, b ≠ X.env.locals → b ∉ X.fs → b ∉ ch → s.heap.get? b = some o → H b = none → h'.get? b = some o)
    (slot : ∀ b o, b ≠ X.env.locals → b ∈ X.fs → b ∉ ch → s.heap.get? b = some o → H b = none → ∃ sl, h'.get? b = some { o with slots := sl }) (free : ∀ b o, b ∉ ch → s.heap.get? b = some o → H b = none → H' b = none)
    (there : ∀ b o, b ∉ ch → s.heap.get? b = some o → ∃ o', h'.get? b = some o')
    (tups : ∀ b xs, H b = some (.tup xs) → H' b = some (.tup xs)) (frzs : ∀ b o u, H b = some (.frz o u) → H' b = some (.frz o u)) (tbls : ∀ b ps, H b = some (.tbl ps) → ∃ more, H' b = some (.tbl (ps ++ more)))
    (ns : ∀ m, s.heap.Ns X.env.locals m → h'.Ns X.env.locals m) (hok : HOk X.prog X.w H' h') (hg : AllBare g') :
    Inv X pins σ H' { s with heap := h', gens := g', drawn := d', toks := t' } := by
  have neL : ∀ b o, X.s₀.heap.get? b = some o → b ≠ X.env.locals := fun b o e => Nat.ne_of_lt (Nat.lt_of_lt_of_le (Heap.lt_size e) I.ok.above)
  have neC : ∀ b o, X.s₀.heap.get? b = some o → b ∉ X.ex → b ∉ ch := fun b o e hx hb => by
    rcases (hch b hb).1 with z | z
    · exact hx z
    · exact absurd (Nat.lt_of_lt_of_le (Heap.lt_size e) z) (Nat.lt_irrefl _)
  have cellK : ∀ x c, X.env.cells.lookup x = some c → ∀ v, s.heap.IsCell c v → h'.IsCell c v := fun x c e v ⟨o, ho, hd⟩ => by
    have nch : c ∉ ch := fun z => (hch c z).2.2.1 x c e rfl
    by_cases hc : c ∈ X.fs
    · obtain ⟨sl, q⟩ := slot c o (I.cne x c e) hc nch ho (I.freeC x c e)
      exact ⟨_, q, hd⟩
    · exact ⟨o, keep c o (I.cne x c e) hc nch ho (I.freeC x c e), hd⟩
  refine ⟨I.ok, I.os, hg, ⟨fun b o e n hb hx => ?_, fun b o e n hb hx => ?_, fun b o e n hx => ?_, fun b o e hx => ?_, fun b xs e => tups b xs (I.base.tups b xs e), fun b o xs e => frzs b o xs (I.base.frzs b o xs e), fun b ps e => ?_⟩, ?_, fun x c e => ?_, ?_, fun x c e => ?_, fun p hp => ?_, hok, I.len⟩
  · exact keep b o (neL b o e) hb (neC b o e hx) (I.base.keep b o e n hb hx) (I.base.free b o e n hx)
  · obtain ⟨sl, e1⟩ := I.base.slot b o e n hb hx
    obtain ⟨sl', e2⟩ := slot b _ (neL b o e) hb (neC b o e hx) e1 (I.base.free b o e n hx)
    exact ⟨sl', e2⟩
  · obtain ⟨o', e1⟩ := I.base.there b o e hx
    exact free b o' (neC b o e hx) e1 (I.base.free b o e n hx)
  · obtain ⟨o', e1⟩ := I.base.there b o e hx
    exact there b o' (neC b o e hx) e1
  · obtain ⟨m1, e1⟩ := I.base.tbls b ps e
    obtain ⟨m2, e2⟩ := tbls b _ e1
    exact ⟨m1 ++ m2, by rw [e2, Array.append_assoc]⟩
  · obtain ⟨m, hn, hl⟩ := I.loc
    refine ⟨m, ns m hn, fun i x v e1 e2 e3 => ?_⟩
    obtain ⟨u, r, l⟩ := hl i x v e1 e2 e3
    refine ⟨u, r, ?_⟩
    rcases l with l | ⟨k, c, e, z⟩
    · exact .inl l
    · exact .inr ⟨k, c, e, cellK x c e _ z⟩
  · obtain ⟨v, z⟩ := I.cell x c e
    exact ⟨v, cellK x c e v z⟩
  · obtain ⟨m, ⟨o, _, _, ho, _⟩, _⟩ := I.loc
    exact free _ o (fun z => (hch _ z).2.1 rfl) ho I.free
  · obtain ⟨v, o, ho, hd⟩ := I.cell x c e
    exact free c o (fun z => (hch c z).2.2.1 x c e rfl) ho (I.freeC x c e)
  · obtain ⟨e, n, ne, nf, d⟩ := I.pin p hp
    have nch : p.1 ∉ ch := fun z => (hch p.1 z).2.2.2 p hp rfl
    exact ⟨keep p.1 p.2 ne nf nch e n, free p.1 p.2 nch e n, ne, nf, d⟩
/-- .. where the frame's own object is kept too -/
theorem Inv.un {t' : Nat} (I : Inv X pins σ H s) (u : Un X.fs [] H H' s.heap h') (hok : HOk X.prog X.w H' h') : Inv X pins σ H' { s with heap := h', toks := t' } := by
  obtain ⟨m, ⟨o, es, ep, ho, r⟩, _⟩ := id I.loc
  obtain ⟨sl, hL⟩ := u.any ho I.free (by simp)
  exact I.step (g' := s.gens) (d' := s.drawn) (ch := []) (fun _ z => nomatch z) (fun b o _ hb _ e n => u.keep b o e n hb (by simp)) (fun b o _ hb _ e n => u.slot b o e n hb (by simp)) (fun b o _ e n => u.free b o e n (by simp)) (fun b o _ e => u.there b o e (by simp)) u.tups u.frzs u.tbls (fun m' hm => by
    obtain ⟨o', es', ep', ho', r'⟩ := hm
    rw [ho] at ho'; cases ho'
    exact ⟨_, es', ep', hL, r'⟩) hok I.bare
/-- behind a call (or a comprehension's block): the slots of this frame may have changed too, the records at ch may have turned -/
theorem Inv.call {g' : Array GenState} {t' : Nat} {d' : Drawn} {ch : List Addr} (I : Inv X pins σ H s) (u : Un (frs X.stack) ch H H' s.heap h') (hok : HOk X.prog X.w H' h') (hg : AllBare g')
    (hch : ∀ b ∈ ch, (b ∈ X.ex ∨ X.s₀.heap.objs.size ≤ b) ∧ b ≠ X.env.locals ∧ (∀ x c, X.env.cells.lookup x = some c → c ≠ b) ∧ ∀ p ∈ X.pn ++ pins, p.1 ≠ b) :
    Inv X pins σ H' { s with heap := h', gens := g', drawn := d', toks := t' } := by
  obtain ⟨m, ⟨o, es, ep, ho, r⟩, _⟩ := id I.loc
  obtain ⟨sl, hL⟩ := u.any ho I.free fun z => (hch _ z).2.1 rfl
  exact I.step (ch := ch) hch (fun b o hL hb hc e n => u.keep b o e n (fun z => (List.mem_cons.mp (I.stkSub b z)).elim hL hb) hc) (fun b o _ _ hc e n => u.any e n hc) (fun b o hc e n => u.free b o e n hc) (fun b o hc e => u.there b o e hc) u.tups u.frzs u.tbls (fun m' hm => by
    obtain ⟨o', es', ep', ho', r'⟩ := hm
    rw [ho] at ho'; cases ho'
    exact ⟨_, es', ep', hL, r'⟩) hok hg
/-- an untracked record of ours (an iterator) has turned -/
theorem Inv.turned {t' : Nat} {it : Addr} (I : Inv X pins σ H s) (k : ∀ b o, b ≠ it → s.heap.get? b = some o → h'.get? b = some o) (hn : H it = none) (hL : it ≠ X.env.locals)
    (h1 : it ∈ X.ex ∨ X.s₀.heap.objs.size ≤ it) (h2 : ∀ x c, X.env.cells.lookup x = some c → c ≠ it) (h3 : ∀ p ∈ X.pn ++ pins, p.1 ≠ it) : Inv X pins σ H { s with heap := h', toks := t' } := by
  have nit : ∀ b u, H b = some u → b ≠ it := fun b u e z => by rw [z, hn] at e; cases e
  refine I.step (g' := s.gens) (d' := s.drawn) (ch := [it]) (fun b hb => ?_) (fun b o _ _ hc e _ => k b o (fun z => hc (by simp [z])) e) (fun b o _ _ hc e _ => ⟨o.slots, k b o (fun z => hc (by simp [z])) e⟩) (fun _ _ _ _ n => n)
    (fun b o hc e => ⟨o, k b o (fun z => hc (by simp [z])) e⟩) (fun _ _ e => e) (fun _ _ _ e => e) (fun b ps e => ⟨#[], by rw [e]; simp⟩) (fun m hm => ?_) (fun b u e => ?_) I.bare
  · have e : b = it := by simpa using hb
    subst e
    exact ⟨h1, hL, h2, h3⟩
  · obtain ⟨o, es, ep, ho, r⟩ := hm
    exact ⟨o, es, ep, k _ o (Ne.symm hL) ho, r⟩
  · refine (I.hok b u e).stay (fun c v hc q => k c v ?_ q) (fun _ q => q) fun _ _ q => q
    rcases hc with z | z
    · rw [z]; exact nit b u e
    · exact nit c _ z
theorem Inv.tok (I : Inv X pins σ H s) (t : Nat) : Inv X pins σ H { s with toks := t } := I.un (h' := s.heap) (t' := t) Un.refl I.hok
/-- all objects kept -/
theorem Inv.kept {t' : Nat} (I : Inv X pins σ H s) (k : ∀ b u, s.heap.get? b = some u → h'.get? b = some u) : Inv X pins σ H { s with heap := h', toks := t' } := I.un (Un.kept k) (I.hok.kept k)
/-- a new object laid and tracked -/
theorem Inv.laid {a : Addr} {o : HO} {t' : Nat} (I : Inv X pins σ H s) (k : ∀ b u, s.heap.get? b = some u → h'.get? b = some u) (hp : s.heap.objs.size ≤ a) (new : ObjOk X.prog X.w (upd H a o) h' a o) :
    Inv X pins σ (upd H a o) { s with heap := h', toks := t' } := I.un (Un.laid k hp (I.hok.fresh hp)) (I.hok.laid k hp new)
/-- an object written -/
theorem Inv.write {x e : Addr} {o : HO} {t' : Nat} (I : Inv X pins σ H s) (mu : Mut (H x)) (he : e = x ∨ H e = some (.own x)) (k : ∀ b u, b ≠ e → s.heap.get? b = some u → h'.get? b = some u) (heo : ∃ u, h'.get? e = some u)
    (new : ObjOk X.prog X.w (upd H x o) h' x o) : Inv X pins σ (upd H x o) { s with heap := h', toks := t' } := I.un (Un.write mu he k heo) (I.hok.write mu he k heo new)
theorem Inv.pins_of {pins' : List (Addr × Obj)} (I : Inv X pins σ H s) (h : ∀ p ∈ pins', s.heap.get? p.1 = some p.2 ∧ H p.1 = none ∧ p.1 ≠ X.env.locals ∧ p.1 ∉ X.fs ∧ ∀ v, p.2.data ≠ .cell v) : Inv X pins' σ H s :=
  ⟨I.ok, I.os, I.bare, I.base, I.loc, I.cell, I.free, I.freeC, fun p hp => (List.mem_append.mp hp).elim (fun z => I.pin p (List.mem_append_left _ z)) (h p), I.hok, I.len⟩

theorem nodup_ix {N : List Str} (hN : N.Nodup) {i j : Nat} {x : Str} (a : N[i]? = some x) (b : N[j]? = some x) : i = j := by
  obtain ⟨h1, e1⟩ := List.getElem?_eq_some_iff.mp a
  obtain ⟨h2, e2⟩ := List.getElem?_eq_some_iff.mp b
  exact (List.getElem_inj hN).mp (e1.trans e2.symm)

/-- a name is stored; what changed -/
theorem store_ok2 {M : Model} {A : Around} {E : Value → Shared → Prop} {i : Nat} {x : Str} {v : V} {u : Value} {Q : Unit → Shared → Prop} (I : Inv X pins σ H s) (hN : X.N.Nodup) (hi : X.N[i]? = some x) (hx : Loc X.env.scope x) (r : RelV v u)
    (h : ∀ s', Inv X pins (σ.set i (some v)) H s' → (∃ a, Heap.SameBut a s.heap s'.heap ∧ (a = X.env.locals ∨ X.env.cells.lookup x = some a)) → Q () s') (hf : X.fn x = true ∨ X.env.scope.names.lookup x = some .local := by first | exact .inl rfl | exact .inr rfl | assumption) : wpAny M A (storeName X.env x u) Q E s := by
  obtain ⟨m, hn, hl⟩ := id I.loc
  have hcls : (X.env.scope.kind == .class || (X.env.scope.kind == .module && X.env.locals != X.env.globals)) = false := by rw [I.ok.kind]; rfl
  have hiσ : i < σ.length := by rw [I.len]; exact (List.getElem?_eq_some_iff.mp hi).1
  have cne := I.cne
  have tracked : ∀ {a : Addr} {h' : Heap}, (∃ o, s.heap.get? a = some o ∧ H a = none) → Heap.SameBut a s.heap h' → HOk X.prog X.w H h' := fun {a h'} ha hs b ob e => by
    obtain ⟨_, _, hfree⟩ := ha
    refine (I.hok b ob e).stay (fun c w' hc q => (hs.2 c ?_).trans q) (fun _ q => q) fun _ _ q => q
    rintro rfl
    rcases hc with rfl | hc
    · rw [hfree] at e; cases e
    · rw [hfree] at hc; cases hc
  rcases hx with hk | hk
  · refine wpAny_storeName_local hk hn (fun h' hn' hs => ?_) hcls
    obtain ⟨oL, _, _, hoL, _⟩ := id hn
    refine h _ ⟨I.ok, I.os, I.bare, ⟨fun b o e n hb hx => ?_, fun b o e n hb hx => ?_, I.base.free, fun b o e hx => ?_, I.base.tups, I.base.frzs, I.base.tbls⟩, ⟨_, hn', fun j y v' e1 e2 e3 => ?_⟩, fun y c e => ?_, I.free, I.freeC, fun p hp => ?_, tracked ⟨oL, hoL, I.free⟩ hs, by simpa using I.len⟩ ⟨_, hs, .inl rfl⟩
    · exact (hs.2 b (Nat.ne_of_lt (Nat.lt_of_lt_of_le (Heap.lt_size e) I.ok.above))).trans (I.base.keep b o e n hb hx)
    · obtain ⟨sl, e1⟩ := I.base.slot b o e n hb hx
      exact ⟨sl, (hs.2 b (Nat.ne_of_lt (Nat.lt_of_lt_of_le (Heap.lt_size e) I.ok.above))).trans e1⟩
    · obtain ⟨o', e1⟩ := I.base.there b o e hx
      exact ⟨o', (hs.2 b (Nat.ne_of_lt (Nat.lt_of_lt_of_le (Heap.lt_size e) I.ok.above))).trans e1⟩
    · by_cases hj : j = i
      · subst hj
        rw [hi] at e1; cases e1
        rw [List.getElem?_set_self hiσ] at e2
        cases e2
        exact ⟨u, r, .inl ⟨hk, by simp⟩⟩
      · rw [List.getElem?_set_ne (Ne.symm hj)] at e2
        obtain ⟨u', r', q⟩ := hl j y v' e1 e2 e3
        refine ⟨u', r', ?_⟩
        rcases q with ⟨k, e⟩ | ⟨k, c, e, z⟩
        · refine .inl ⟨k, ?_⟩
          have : y ≠ x := fun e => hj (nodup_ix hN e1 (e ▸ hi))
          simp [this, e]
        · exact .inr ⟨k, c, e, z.sameBut hs (cne y c e)⟩
    · obtain ⟨w', z⟩ := I.cell y c e
      exact ⟨w', z.sameBut hs (cne y c e)⟩
    · obtain ⟨e, n, ne, nf, d⟩ := I.pin p hp
      exact ⟨(hs.2 p.1 ne).trans e, n, ne, nf, d⟩
  · have hfn : X.fn x = true := by
      rcases hf with z | z
      · exact z
      · rw [z] at hk; cases hk
    obtain ⟨c, hc⟩ := I.ok.has x (.inl hk)
    obtain ⟨w', z⟩ := I.cell x c hc
    refine wpAny_storeName_cell I.ok.kind hk hc z (fun h' hc' hs => ?_)
    obtain ⟨oc, hoc, hocd⟩ := id z
    refine h { s with heap := h' } ⟨I.ok, I.os, I.bare, ⟨fun b o e n hb hx => ?_, fun b o e n hb hx => ?_, I.base.free, fun b o e hx => ?_, I.base.tups, I.base.frzs, I.base.tbls⟩, ⟨m, hn.sameBut hs (Ne.symm (cne x c hc)), fun j y v' e1 e2 e3 => ?_⟩, fun y c' e => ?_, I.free, I.freeC, fun p hp => ?_, tracked ⟨oc, hoc, I.freeC x c hc⟩ hs, by simpa using I.len⟩ ⟨c, hs, .inr hc⟩
    · exact (hs.2 b (Nat.ne_of_lt (Nat.lt_of_lt_of_le (Heap.lt_size e) (I.ok.cab x c hfn hc)))).trans (I.base.keep b o e n hb hx)
    · obtain ⟨sl, e1⟩ := I.base.slot b o e n hb hx
      exact ⟨sl, (hs.2 b (Nat.ne_of_lt (Nat.lt_of_lt_of_le (Heap.lt_size e) (I.ok.cab x c hfn hc)))).trans e1⟩
    · obtain ⟨o', e1⟩ := I.base.there b o e hx
      exact ⟨o', (hs.2 b (Nat.ne_of_lt (Nat.lt_of_lt_of_le (Heap.lt_size e) (I.ok.cab x c hfn hc)))).trans e1⟩
    · by_cases hj : j = i
      · subst hj
        rw [hi] at e1; cases e1
        rw [List.getElem?_set_self hiσ] at e2
        cases e2
        exact ⟨u, r, .inr ⟨.inl hk, c, hc, hc'⟩⟩
      · rw [List.getElem?_set_ne (Ne.symm hj)] at e2
        obtain ⟨u', r', q⟩ := hl j y v' e1 e2 e3
        refine ⟨u', r', ?_⟩
        rcases q with q | ⟨k, c', e, z'⟩
        · exact .inl q
        · refine .inr ⟨k, c', e, z'.sameBut hs ?_⟩
          rintro rfl
          exact hj (nodup_ix hN e1 (I.ok.inj _ _ _ e hc ▸ hi))
    · by_cases hcc : c' = c
      · subst hcc; exact ⟨_, hc'⟩
      · obtain ⟨w2, z2⟩ := I.cell y c' e
        exact ⟨w2, z2.sameBut hs hcc⟩
    · obtain ⟨e, n, ne, nf, d⟩ := I.pin p hp
      refine ⟨(hs.2 p.1 ?_).trans e, n, ne, nf, d⟩
      intro q
      rw [q, hoc] at e
      have q' : oc = p.2 := Option.some.inj e
      exact d w' (by rw [← q']; exact hocd)
theorem store_ok {M : Model} {A : Around} {E : Value → Shared → Prop} {i : Nat} {x : Str} {v : V} {u : Value} {Q : Unit → Shared → Prop} (I : Inv X pins σ H s) (hN : X.N.Nodup) (hi : X.N[i]? = some x) (hx : Loc X.env.scope x) (r : RelV v u)
    (h : ∀ s', Inv X pins (σ.set i (some v)) H s' → Q () s') (hf : X.fn x = true ∨ X.env.scope.names.lookup x = some .local := by first | exact .inl rfl | exact .inr rfl | assumption) : wpAny M A (storeName X.env x u) Q E s :=
  store_ok2 I hN hi hx r (fun s' I' _ => h s' I') hf
/-- behind a call or a block, the state as it is -/
theorem Inv.call' {s' : Shared} {ch : List Addr} (I : Inv X pins σ H s) (ho : s'.os = s.os) (u : Un (frs X.stack) ch H H' s.heap s'.heap) (hok : HOk X.prog X.w H' s'.heap) (hg : AllBare s'.gens)
    (hch : ∀ b ∈ ch, (b ∈ X.ex ∨ X.s₀.heap.objs.size ≤ b) ∧ b ≠ X.env.locals ∧ (∀ x c, X.env.cells.lookup x = some c → c ≠ b) ∧ ∀ p ∈ X.pn ++ pins, p.1 ≠ b) : Inv X pins σ H' s' := by
  obtain ⟨h', g', d', t', o'⟩ := s'
  have e : o' = s.os := ho
  subst e
  exact I.call (g' := g') (t' := t') (d' := d') u hok hg hch
end

/-! ### the judgements -/
/-- an exception: its class, its own dict's address (where it has one), the abstract heap behind it -/
abbrev XK := Value → Option Addr → Hp → Prop
abbrev St := List (Option V)
abbrev VK := V → Hp → Prop
/-- an expression's reading; a test's; an argument list's -/
abbrev TE := St → Hp → VK → Prop
abbrev TT := St → Hp → (Bool → Hp → Prop) → Prop
abbrev TA := St → Hp → (List V → Hp → Prop) → Prop
/-- what is wanted behind a statement -/
structure Ends where
  nx : St → Hp → Prop
  rt : VK
  bk : St → Hp → Prop := fun _ _ => False
  ct : St → Hp → Prop := fun _ _ => False
abbrev TS := Ends → St → Hp → Prop

def EP (X : Cx) (pins : List (Addr × Obj)) (σ : St) (Q : VK) (u : Value) (s' : Shared) : Prop := ∃ v H', Inv X pins σ H' s' ∧ RelV v u ∧ Q v H'
def TP (X : Cx) (pins : List (Addr × Obj)) (σ : St) (Q : Bool → Hp → Prop) (b : Bool) (s' : Shared) : Prop := ∃ H', Inv X pins σ H' s' ∧ Q b H'
def AP (X : Cx) (pins : List (Addr × Obj)) (σ : St) (Q : List V → Hp → Prop) (us : List Value) (s' : Shared) : Prop := ∃ vs H', Inv X pins σ H' s' ∧ Vals vs us ∧ Q vs H'
def SP (X : Cx) (pins : List (Addr × Obj)) (D : Ends) (f : Flow) (s' : Shared) : Prop :=
  match f with
  | .next => ∃ σ' H', Inv X pins σ' H' s' ∧ D.nx σ' H'
  | .brk => ∃ σ' H', Inv X pins σ' H' s' ∧ D.bk σ' H'
  | .cont => ∃ σ' H', Inv X pins σ' H' s' ∧ D.ct σ' H'
  | .ret u => ∃ v σ' H', Inv X pins σ' H' s' ∧ RelV v u ∧ D.rt v H'

def PE (X : Cx) (e : Expr) (t : TE) : Prop :=
  ∀ (pins : List (Addr × Obj)) (s : Shared) (σ : St) (H : Hp) (Q : VK), Inv X pins σ H s → t σ H Q → wpAny (model X.prog X.w) X.A (eval e X.env) (EP X pins σ Q) X.xe s
def PT (X : Cx) (e : Expr) (t : TT) : Prop :=
  ∀ (pins : List (Addr × Obj)) (s : Shared) (σ : St) (H : Hp) (Q : Bool → Hp → Prop), Inv X pins σ H s → t σ H Q → wpAny (model X.prog X.w) X.A (isTrue e X.env (eval e X.env)) (TP X pins σ Q) X.xe s
/-- a test whatever its 'whole' is (and, or) -/
def PW (X : Cx) (e : Expr) (t : TT) : Prop :=
  ∀ (whole : Sem Value) (pins : List (Addr × Obj)) (s : Shared) (σ : St) (H : Hp) (Q : Bool → Hp → Prop), Inv X pins σ H s → t σ H Q → wpAny (model X.prog X.w) X.A (isTrue e X.env whole) (TP X pins σ Q) X.xe s
theorem PW.pt {X : Cx} {e : Expr} {t : TT} (h : PW X e t) : PT X e t := h _
/-- an argument list (no star), from the left -/
def PA (X : Cx) (es : List Expr) (t : TA) : Prop :=
  ∀ (pos : Pos) (pins : List (Addr × Obj)) (s : Shared) (σ : St) (H : Hp) (Q : List V → Hp → Prop), Inv X pins σ H s → t σ H Q → wpAny (model X.prog X.w) X.A (spliced (backTo pos (starEach es X.env))) (AP X pins σ Q) X.xe s
def PS (X : Cx) (st : Stmt) (t : TS) : Prop :=
  ∀ (pins : List (Addr × Obj)) (s : Shared) (σ : St) (H : Hp) (D : Ends), Inv X pins σ H s → t D σ H → wpAny (model X.prog X.w) X.A (exec st X.env) (SP X pins D) X.xe s
def PSs (X : Cx) (st : List Stmt) (t : TS) : Prop :=
  ∀ (pins : List (Addr × Obj)) (s : Shared) (σ : St) (H : Hp) (D : Ends), Inv X pins σ H s → t D σ H → wpAny (model X.prog X.w) X.A (execs st X.env) (SP X pins D) X.xe s
/-- weaken the end -/
theorem thn {α : Type} {t : Sem α} {Q Q' : α → Shared → Prop} {M : Model} {A : Around} {E : Value → Shared → Prop} {s : Shared} (h : wpAny M A t Q E s) (hQ : ∀ a s, Q a s → Q' a s) : wpAny M A t Q' E s := wpAny_mono h hQ fun _ _ x => x
end L2

namespace L2
open PySem PySem.Spec PyProof.Rows
section
variable {X : Cx}

/-- two expressions in a row -/
theorem bin {a b : Expr} {ta tb : TE} (ha : PE X a ta) (hb : PE X b tb) {pins : List (Addr × Obj)} {s : Shared} {σ : St} {H : Hp} {R : V → V → Hp → Prop} (I : Inv X pins σ H s) (h : ta σ H fun x H1 => tb σ H1 fun y H2 => R x y H2)
    {α : Type} {Q : α → Shared → Prop} {f : Value → Value → Sem α}
    (hf : ∀ v u s2 x y H2, Inv X pins σ H2 s2 → RelV x v → RelV y u → R x y H2 → wpAny (model X.prog X.w) X.A (f v u) Q X.xe s2) :
    wpAny (model X.prog X.w) X.A (eval a X.env) (fun v s₁ => wpAny (model X.prog X.w) X.A (eval b X.env) (fun u s₂ => wpAny (model X.prog X.w) X.A (f v u) Q X.xe s₂) X.xe s₁) X.xe s := by
  refine thn (ha pins s σ H _ I h) fun v s1 ⟨x, H1, I1, r1, q1⟩ => ?_
  refine thn (hb pins s1 σ H1 _ I1 q1) fun u s2 ⟨y, H2, I2, r2, q2⟩ => ?_
  exact hf v u s2 x y H2 I2 r1 r2 q2

/-! ### names and constants -/
def tVar (i : Nat) : TE := fun σ H Q => ∃ v, σ[i]? = some (some v) ∧ Q v H
def tC (v : V) : TE := fun _ H Q => Q v H
theorem pe_var {i : Nat} {x : Str} {pos : Pos} (hN : X.N[i]? = some x) (hv : Vis X.env.scope x) (hd : (x == ("__debug__" : Str)) = false := by decide) (hcd : (x == ("__classdict__" : Str)) = false := by decide) : PE X (.Name x pos) (tVar i) := by
  intro pins s σ H Q I h
  obtain ⟨v, e, h⟩ := h
  obtain ⟨m, hn, hl⟩ := I.loc
  obtain ⟨u, r, l⟩ := hl i x v hN e hv
  have fin : EP X pins σ Q u s := ⟨v, H, I, r, h⟩
  rcases l with ⟨hk, hm⟩ | ⟨hk, c, hc, hcell⟩
  · exact wpAny_Name (wpAny_loadName_local I.ok.kind hk hn hm fin) hd
  · rcases hk with hk | hk
    · exact wpAny_Name (wpAny_loadName_cell I.ok.kind hk hc hcell fin) hd
    · exact wpAny_Name (wpAny_loadName_free I.ok.kind hk hc hcell fin hcd) hd
theorem pe_int {i j pos} : PE X (.Constant (.int i) j pos) (tC (.int i)) := fun _ _ _ H _ I h => wpAny_Constant_int ⟨.int i, H, I.tok _, ⟨_, rfl⟩, h⟩
theorem pe_bl {b j pos} : PE X (.Constant (.bool b) j pos) (tC (.bl b)) := fun _ _ _ H _ I h => Constant_bool ⟨.bl b, H, I, rfl, h⟩
theorem pe_non {j pos} : PE X (.Constant .none j pos) (tC .non) := fun _ _ _ H _ I h => Constant_none ⟨.non, H, I, rfl, h⟩
theorem pe_str {x j pos} : PE X (.Constant (.str x) j pos) (tC (.str x)) := fun _ _ _ H _ I h => Calls.Constant_str ⟨.str x, H, I.tok _, ⟨_, rfl⟩, h⟩

/-- a global name of the def -/
def Gl (X : Cx) (x : Str) : Prop := X.env.kindOf x = some .globalImplicit
theorem ld_glob {E : Value → Shared → Prop} {pins : List (Addr × Obj)} {s : Shared} {σ : St} {H : Hp} {x : Str} {u : Value} {pos : Pos} {Q : Value → Shared → Prop} (I : Inv X pins σ H s) (hg : Gl X x) (hm : X.mg x = some u) (h : Q u s)
    (hd : (x == ("__debug__" : Str)) = false := by decide) : wpAny (model X.prog X.w) X.A (eval (.Name x pos) X.env) Q E s :=
  Calls.Name_function_global I.ok.kind hg (Calls.loadGlobal_global (by rw [I.ok.glob]; exact I.mod.glob.keeps I.bk) hm h) hd
theorem ld_blt {E : Value → Shared → Prop} {pins : List (Addr × Obj)} {s : Shared} {σ : St} {H : Hp} {x : Str} {u : Value} {pos : Pos} {Q : Value → Shared → Prop} (I : Inv X pins σ H s) (hg : Gl X x) (hm : X.mg x = none) (hv : bootBuiltins x = some u) (h : Q u s)
    (hn : x ≠ "__name__" := by decide) (hd : (x == ("__debug__" : Str)) = false := by decide) : wpAny (model X.prog X.w) X.A (eval (.Name x pos) X.env) Q E s := by
  obtain ⟨mb, h1, h2⟩ := I.mod.blt
  exact Calls.Name_function_global I.ok.kind hg (Calls.loadGlobal_builtin (by rw [I.ok.glob]; exact I.mod.glob.keeps I.bk) hm (by rw [I.ok.blt]; exact h1.keeps I.bk) ((h2 x hn).trans hv) h) hd
/-- a module's constant, a class, a function, as a value -/
theorem pe_glob {x : Str} {v : V} {u : Value} {pos : Pos} (hg : Gl X x) (hm : X.mg x = some u) (r : RelV v u) (hd : (x == ("__debug__" : Str)) = false := by decide) : PE X (.Name x pos) (tC v) :=
  fun _ _ _ H _ I h => ld_glob I hg hm ⟨v, H, I, r, h⟩ hd
theorem pe_bltn {x : Str} {v : V} {u : Value} {pos : Pos} (hg : Gl X x) (hm : X.mg x = none) (hv : bootBuiltins x = some u) (r : RelV v u) (hn : x ≠ "__name__" := by decide) (hd : (x == ("__debug__" : Str)) = false := by decide) : PE X (.Name x pos) (tC v) :=
  fun _ _ _ H _ I h => ld_blt I hg hm hv ⟨v, H, I, r, h⟩ hn hd

/-! ### arithmetic -/
/-- two ints -/
def t2I (ta tb : TE) (k : Int → Int → Hp → Prop) : St → Hp → Prop := fun σ H => ta σ H fun x H1 => tb σ H1 fun y H2 => ∃ i j, x = .int i ∧ y = .int j ∧ k i j H2
def tAdd (ta tb : TE) : TE := fun σ H Q => t2I ta tb (fun i j H2 => Q (.int (i + j)) H2) σ H
def tSub (ta tb : TE) : TE := fun σ H Q => t2I ta tb (fun i j H2 => Q (.int (i - j)) H2) σ H
/-- the left factor below 2^64 -/
def tMul (ta tb : TE) : TE := fun σ H Q => t2I ta tb (fun i j H2 => (-(2 ^ 64) < i ∧ i < 2 ^ 64) ∧ Q (.int (i * j)) H2) σ H
variable {a b : Expr} {ta tb : TE} {pos : Pos}

/-! ### comparisons -/
def PC (X : Cx) (op : CmpOp) (a b : Expr) (t : TE) : Prop :=
  ∀ (pins : List (Addr × Obj)) (s : Shared) (σ : St) (H : Hp) (Q : VK), Inv X pins σ H s → t σ H Q →
    wpAny (model X.prog X.w) X.A (eval a X.env) (fun v s₁ => wpAny (model X.prog X.w) X.A (eval b X.env) (fun u s₂ => wpAny (model X.prog X.w) X.A (compareOp op v u) (EP X pins σ Q) X.xe s₂) X.xe s₁) X.xe s
theorem nobehind (b : Expr) {op : CmpOp} (h : op ≠ .In) (h2 : op ≠ .NotIn) : behindInMarks op b = false := by
  have e1 : (op == CmpOp.In) = false := by cases op <;> first | rfl | exact absurd rfl h
  have e2 : (op == CmpOp.NotIn) = false := by cases op <;> first | rfl | exact absurd rfl h2
  cases b <;> simp [behindInMarks, e1, e2]
def tCmp (p : Int → Int → Bool) (ta tb : TE) : TE := fun σ H Q => t2I ta tb (fun i j H2 => Q (.bl (p i j)) H2) σ H
abbrev tLt : TE → TE → TE := tCmp fun i j => decide (i < j)
abbrev tLe : TE → TE → TE := tCmp fun i j => decide (i ≤ j)
abbrev tGt : TE → TE → TE := tCmp fun i j => decide (j < i)
abbrev tGe : TE → TE → TE := tCmp fun i j => decide (j ≤ i)
abbrev tEqI : TE → TE → TE := tCmp fun i j => decide (i = j)
abbrev tNeI : TE → TE → TE := tCmp fun i j => !decide (i = j)
/-- is None -/
def tIsN (ta : TE) : TE := fun σ H Q => ta σ H fun x H1 => Q (.bl (decide (x = .non))) H1
def tNotN (ta : TE) : TE := fun σ H Q => ta σ H fun x H1 => Q (.bl (!decide (x = .non))) H1
/-- a comparison as a value, as a test -/
def tB (t : TE) : TT := fun σ H Q => t σ H fun x H1 => ∃ c, x = .bl c ∧ Q c H1
theorem pt_cmp {op : CmpOp} {t : TE} (h : PC X op a b t) (h1 : behindInMarks op b = false := by first | exact nobehind _ (by decide) (by decide) | rfl) : PT X (.Compare a [op] [b] pos) (tB t) := by
  intro pins s σ H Q I hw
  refine wpAny_isTrue_Compare1 (thn (h pins s σ H _ I hw) fun v s1 h1 => thn h1 fun u s2 h2 => thn h2 fun c s3 ⟨x, H1, I1, r1, q1⟩ => ?_) h1
  obtain ⟨d, rfl, q⟩ := q1
  cases r1
  exact wpAny_truthy_bool ⟨H1, I1, q⟩
/-- an expression whose value is a bool, as a test -/
theorem pt_val {e : Expr} {t : TE} (h : PE X e t) (he : ∀ whole, isTrue e X.env whole = (do let v ← whole; standAt e.pos; holding [v] (truthy v)) := by intro _; rfl) : PT X e (tB t) := by
  intro pins s σ H Q I hw
  refine isTrue_plain (thn (h pins s σ H _ I hw) fun v s1 ⟨x, H1, I1, r1, q1⟩ => ?_) (he _)
  obtain ⟨d, rfl, q⟩ := q1
  cases r1
  exact wpAny_truthy_bool ⟨H1, I1, q⟩

/-! ### and, or, not -/
variable {tA tB' : TT} {rest : List Expr}
def tAnd (t u : TT) : TT := fun σ H Q => t σ H fun c H1 => if c = true then u σ H1 Q else Q false H1
def tOr (t u : TT) : TT := fun σ H Q => t σ H fun c H1 => if c = true then Q true H1 else u σ H1 Q
def tNot (t : TT) : TT := fun σ H Q => t σ H fun c H1 => Q (!c) H1
theorem pw_and1 (ha : PT X a tA) : PW X (.BoolOp .And [a] pos) tA := by
  intro wh pins s σ H Q I h
  refine isTrue_and (thn (ha pins s σ H Q I h) fun c s1 e => ?_)
  cases c with
  | true => exact isTrue_and_nil e
  | false => exact e
theorem pw_or1 (ha : PT X a tA) : PW X (.BoolOp .Or [a] pos) tA := by
  intro wh pins s σ H Q I h
  refine isTrue_or (thn (ha pins s σ H Q I h) fun c s1 e => ?_)
  cases c with
  | false => exact isTrue_or_nil e
  | true => exact e
theorem pw_and (ha : PT X a tA) (hb : PW X (.BoolOp .And (b :: rest) pos) tB') : PW X (.BoolOp .And (a :: b :: rest) pos) (tAnd tA tB') := by
  intro wh pins s σ H Q I h
  refine isTrue_and (thn (ha pins s σ H _ I h) fun c s1 ⟨H1, I1, q1⟩ => ?_)
  cases c with
  | true => exact hb wh pins s1 σ H1 Q I1 q1
  | false => exact ⟨H1, I1, q1⟩
theorem pw_or (ha : PT X a tA) (hb : PW X (.BoolOp .Or (b :: rest) pos) tB') : PW X (.BoolOp .Or (a :: b :: rest) pos) (tOr tA tB') := by
  intro wh pins s σ H Q I h
  refine isTrue_or (thn (ha pins s σ H _ I h) fun c s1 ⟨H1, I1, q1⟩ => ?_)
  cases c with
  | true => exact ⟨H1, I1, q1⟩
  | false => exact hb wh pins s1 σ H1 Q I1 q1
theorem pt_not (ha : PT X a tA) : PT X (.UnaryOp .Not a pos) (tNot tA) := by
  intro pins s σ H Q I h
  exact isTrue_not (ha pins s σ H (fun c H1 => Q (!c) H1) I h)
/-- .. as values (bools) -/
def tAndV (ta tb : TE) : TE := fun σ H Q => ta σ H fun x H1 => ∃ c, x = .bl c ∧ if c = true then tb σ H1 Q else Q (.bl false) H1
def tOrV (ta tb : TE) : TE := fun σ H Q => ta σ H fun x H1 => ∃ c, x = .bl c ∧ if c = true then Q (.bl true) H1 else tb σ H1 Q
def tNotV (ta : TE) : TE := fun σ H Q => ta σ H fun x H1 => ∃ c, x = .bl c ∧ Q (.bl (!c)) H1
theorem pe_one {op} {t : TE} (h : PE X a t) : PE X (.BoolOp op [a] pos) t := fun pins s σ H Q I hw => BoolOp_one (h pins s σ H Q I hw)
theorem pe_and (ha : PE X a ta) (hb : PE X (.BoolOp .And (b :: rest) pos) tb) : PE X (.BoolOp .And (a :: b :: rest) pos) (tAndV ta tb) := by
  intro pins s σ H Q I h
  refine BoolOp_and (thn (ha pins s σ H _ I h) fun v s1 ⟨x, H1, I1, r1, q1⟩ => ?_)
  obtain ⟨c, rfl, q1⟩ := q1
  cases r1
  refine wpAny_truthy_bool ?_
  cases c with
  | true => exact hb pins s1 σ H1 Q I1 q1
  | false => exact ⟨.bl false, H1, I1, rfl, q1⟩
theorem pe_or (ha : PE X a ta) (hb : PE X (.BoolOp .Or (b :: rest) pos) tb) : PE X (.BoolOp .Or (a :: b :: rest) pos) (tOrV ta tb) := by
  intro pins s σ H Q I h
  refine BoolOp_or (thn (ha pins s σ H _ I h) fun v s1 ⟨x, H1, I1, r1, q1⟩ => ?_)
  obtain ⟨c, rfl, q1⟩ := q1
  cases r1
  refine wpAny_truthy_bool ?_
  cases c with
  | false => exact hb pins s1 σ H1 Q I1 q1
  | true => exact ⟨.bl true, H1, I1, rfl, q1⟩
/-- a if t else b -/
def tIf (t : TT) (ta tb : TE) : TE := fun σ H Q => t σ H fun c H1 => if c = true then ta σ H1 Q else tb σ H1 Q
end
end L2

namespace L2
open PySem PySem.Spec PyProof.Rows

/-! ### a list, a tuple that is read: tracked, frozen, or an object of the module -/
def SqL (K : PySem.W.Frag) (H : Hp) (a : Addr) (xs : List V) : Prop :=
  Rd H a (.lst xs) ∨
    ∃ (o : Obj) (its : Array Value) (n : Nat), K.lookup a = some o ∧ o.cls = .type "list" ∧ o.dict = none ∧ o.data = .seq its n ∧ its.size ≤ sizeLine ∧ Vals xs its.toList
def SqT (K : PySem.W.Frag) (H : Hp) (a : Addr) (xs : List V) : Prop :=
  Rd H a (.tup xs) ∨
    ∃ (o : Obj) (its : Array Value) (n : Nat), K.lookup a = some o ∧ o.cls = .type "tuple" ∧ o.data = .seq its n ∧ its.size ≤ sizeLine ∧ Vals xs its.toList
def absV : Value → Option V
  | .none => some .non
  | .bool b => some (.bl b)
  | .int i _ => some (.int i)
  | .str x _ => some (.str x)
  | .bytes b _ => some (.byt b)
  | .float b _ => some (.flt b)
  | .ref a => some (.ref a)
  | .type n => some (.ty n)
  | _ => none
theorem RelV.abs {x : V} {u : Value} (r : RelV x u) : absV u = some x := by
  cases x with
  | non => cases r; rfl
  | bl _ => cases r; rfl
  | int _ => obtain ⟨t, rfl⟩ := r; rfl
  | str _ => obtain ⟨t, rfl⟩ := r; rfl
  | byt _ => obtain ⟨t, rfl⟩ := r; rfl
  | flt _ => obtain ⟨t, rfl⟩ := r; rfl
  | ref _ => cases r; rfl
  | ty _ => cases r; rfl
theorem RelV.inj {x y : V} {u : Value} (r : RelV x u) (q : RelV y u) : x = y := Option.some.inj (r.abs.symm.trans q.abs)
theorem Vals.inj : ∀ {xs ys : List V} {us : List Value}, Vals xs us → Vals ys us → xs = ys
  | _, _, _, .nil, .nil => rfl
  | _, _, _, .cons r t, .cons r' t' => by rw [r.inj r', Vals.inj t t']
section
variable {X : Cx} {pins : List (Addr × Obj)} {σ : St} {H : Hp} {s : Shared} {a : Addr} {xs ys : List V}
theorem SqL.of {K : PySem.W.Frag} (h : H a = some (.lst xs)) : SqL K H a xs := .inl (.inl h)
theorem SqT.of {K : PySem.W.Frag} (h : H a = some (.tup xs)) : SqT K H a xs := .inl (.inl h)
theorem Inv.list (I : Inv X pins σ H s) (h : SqL X.K H a xs) : ∃ its : List Value, Vals xs its ∧ PlainL s.heap a its.toArray ∧ xs.length ≤ sizeLine := by
  rcases h with h | ⟨o, its, n, hk, hc, hd, hs, hz, r⟩
  · obtain ⟨z, its, n, r, e⟩ := h.ok I.hok
    exact ⟨its, r, ⟨_, n, e, rfl, rfl, rfl⟩, z⟩
  · refine ⟨its.toList, r, ⟨o, n, I.kIn a o hk, hc, hd, by simpa using hs⟩, ?_⟩
    have e := r.length
    simp only [Array.length_toList] at e
    omega
theorem Inv.tuple (I : Inv X pins σ H s) (h : SqT X.K H a xs) : ∃ its : List Value, Vals xs its ∧ IsTup s.heap a its.toArray ∧ xs.length ≤ sizeLine := by
  rcases h with h | ⟨o, its, n, hk, hc, hs, hz, r⟩
  · obtain ⟨z, its, r, p⟩ := h.ok I.hok
    exact ⟨its, r, p, z⟩
  · refine ⟨its.toList, r, ⟨o, I.kIn a o hk, hc, n, by simpa using hs⟩, ?_⟩
    have e := r.length
    simp only [Array.length_toList] at e
    omega
theorem Inv.list_inj (I : Inv X pins σ H s) (h : SqL X.K H a xs) (h' : SqL X.K H a ys) : xs = ys := by
  obtain ⟨its, r, ⟨o, n, e, _, _, d⟩, _⟩ := I.list h
  obtain ⟨its', r', ⟨o', n', e', _, _, d'⟩, _⟩ := I.list h'
  rw [e] at e'; cases e'
  rw [d] at d'
  injection d' with d1 _
  have : its = its' := by simpa using congrArg Array.toList d1
  subst this
  exact r.inj r'
end

/-! ### another wish about exceptions -/
abbrev Cx.wish (X : Cx) (E : Value → Shared → Prop) : Cx := { X with xe := E }
/-- no exception leaves -/
abbrev Cx.nox (X : Cx) : Cx := X.wish fun _ _ => False
theorem Cx.Ok.wish {X : Cx} (ok : X.Ok) (E : Value → Shared → Prop) : (X.wish E).Ok :=
  ⟨ok.mod, ok.kind, ok.glob, ok.blt, ok.above, ok.inj, ok.has, ok.cab, ok.hd, ok.frames, ok.stk, ok.exf, ok.bs, ok.bsz, ok.noex, ok.exfs, ok.funs, ok.frf⟩
theorem Cx.Ok.unwish {X : Cx} {E : Value → Shared → Prop} (ok : (X.wish E).Ok) : X.Ok :=
  ⟨ok.mod, ok.kind, ok.glob, ok.blt, ok.above, ok.inj, ok.has, ok.cab, ok.hd, ok.frames, ok.stk, ok.exf, ok.bs, ok.bsz, ok.noex, ok.exfs, ok.funs, ok.frf⟩
section
variable {X : Cx} {pins : List (Addr × Obj)} {σ : St} {H : Hp} {s : Shared} {E : Value → Shared → Prop}
theorem Inv.wish (I : Inv X pins σ H s) (E : Value → Shared → Prop) : Inv (X.wish E) pins σ H s := ⟨I.ok.wish E, I.os, I.bare, I.base, I.loc, I.cell, I.free, I.freeC, I.pin, I.hok, I.len⟩
theorem Inv.unwish (I : Inv (X.wish E) pins σ H s) : Inv X pins σ H s := ⟨I.ok.unwish, I.os, I.bare, I.base, I.loc, I.cell, I.free, I.freeC, I.pin, I.hok, I.len⟩
theorem SP.unwish {D : Ends} {f : Flow} {s' : Shared} (h : SP (X.wish E) pins D f s') : SP X pins D f s' := by
  cases f with
  | next => obtain ⟨σ', H', I, q⟩ := h; exact ⟨σ', H', I.unwish, q⟩
  | brk => obtain ⟨σ', H', I, q⟩ := h; exact ⟨σ', H', I.unwish, q⟩
  | cont => obtain ⟨σ', H', I, q⟩ := h; exact ⟨σ', H', I.unwish, q⟩
  | ret u => obtain ⟨v, σ', H', I, r, q⟩ := h; exact ⟨v, σ', H', I.unwish, r, q⟩
theorem PE.nox {e : Expr} {t : TE} (h : PE X.nox e t) : PE X e t := fun pins s σ H Q I hw =>
  wpAny_mono (h pins s σ H Q (I.wish _) hw) (fun _ _ ⟨v, H', I', r, q⟩ => ⟨v, H', I'.unwish, r, q⟩) fun _ _ z => False.elim z
theorem PT.nox {e : Expr} {t : TT} (h : PT X.nox e t) : PT X e t := fun pins s σ H Q I hw =>
  wpAny_mono (h pins s σ H Q (I.wish _) hw) (fun _ _ ⟨H', I', q⟩ => ⟨H', I'.unwish, q⟩) fun _ _ z => False.elim z
theorem PSs.nox {st : List Stmt} {t : TS} (h : PSs X.nox st t) : PSs X st t := fun pins s σ H D I hw =>
  wpAny_mono (h pins s σ H D (I.wish _) hw) (fun _ _ q => q.unwish) fun _ _ z => False.elim z
end

/-! ### blocks and small statements -/
section
variable {X : Cx} {st : Stmt} {rest : List Stmt} {t u : TS} {e : Expr} {te : TE} {pos : Pos}
def tNext : TS := fun D σ H => D.nx σ H
def tSeq (t u : TS) : TS := fun D σ H => t { D with nx := u D } σ H
theorem pss_nil : PSs X [] tNext := fun _ _ σ H _ I h => wpAny_execs_nil ⟨σ, H, I, h⟩
theorem pss_cons (h1 : PS X st t) (h2 : PSs X rest u) : PSs X (st :: rest) (tSeq t u) := by
  intro pins s σ H D I h
  refine wpAny_execs_cons (thn (h1 pins s σ H { D with nx := u D } I h) fun f s1 q => ?_)
  cases f with
  | next =>
    obtain ⟨σ', H', I', q⟩ := q
    exact h2 pins s1 σ' H' D I' q
  | ret v => exact q
  | brk => exact q
  | cont => exact q
theorem pss_one (h1 : PS X st t) : PSs X [st] t := by
  intro pins s σ H D I h
  refine wpAny_execs_cons (thn (h1 pins s σ H D I h) fun f s1 q => ?_)
  cases f with
  | next => exact wpAny_execs_nil q
  | ret v => exact q
  | brk => exact q
  | cont => exact q
def tBreak : TS := fun D σ H => D.bk σ H
def tCont : TS := fun D σ H => D.ct σ H
/-- in a def's body nothing is shown -/
theorem Inv.quiet {pins : List (Addr × Obj)} {σ : St} {H : Hp} {s : Shared} (I : Inv X pins σ H s) : interactive X.env = false := by simp [interactive, I.ok.kind]
/-- an expression whose value is dropped -/
def tDrop (te : TE) : TS := fun D σ H => te σ H fun _ H1 => D.nx σ H1
def tRet (te : TE) : TS := fun D σ H => te σ H D.rt
theorem ps_ret (he : PE X e te) : PS X (.Return (some e) pos) (tRet te) := by
  intro pins s σ H D I h
  exact wpAny_Return_some (thn (he pins s σ H _ I h) fun v s1 ⟨x, H1, I1, r1, q1⟩ => ⟨x, σ, H1, I1, r1, q1⟩)
def tRetN : TS := fun D _ H => D.rt .non H
def tIfS (c : TT) (t u : TS) : TS := fun D σ H => c σ H fun b H1 => if b = true then t D σ H1 else u D σ H1
theorem ps_if {c : Expr} {a b : List Stmt} {tc : TT} (hc : PT X c tc) (ha : PSs X a t) (hb : PSs X b u) : PS X (.If c a b pos) (tIfS tc t u) := by
  intro pins s σ H D I h
  refine wpAny_If (thn (hc pins s σ H _ I h) fun d s1 ⟨H1, I1, q1⟩ => ?_)
  cases d with
  | true => exact ha pins s1 σ H1 D I1 q1
  | false => exact hb pins s1 σ H1 D I1 q1
/-- code that the proof never comes to -/
def tNever : TS := fun _ _ _ => False
end

/-! ### targets -/
abbrev TG := V → St → Hp → (St → Hp → Prop) → Prop
abbrev TGs := List V → St → Hp → (St → Hp → Prop) → Prop
def PG (X : Cx) (target : Expr) (t : TG) : Prop :=
  ∀ (pins : List (Addr × Obj)) (s : Shared) (σ : St) (H : Hp) (v : V) (u : Value) (Q : St → Hp → Prop), Inv X pins σ H s → RelV v u → t v σ H Q →
    wpAny (model X.prog X.w) X.A (assign target X.env u) (fun _ s' => ∃ σ' H', Inv X pins σ' H' s' ∧ Q σ' H') X.xe s
/-- several targets, one after another -/
def PGs (X : Cx) (ts : List Expr) (t : TGs) : Prop :=
  ∀ (pins : List (Addr × Obj)) (s : Shared) (σ : St) (H : Hp) (vs : List V) (us : List Value) (Q : St → Hp → Prop), Inv X pins σ H s → Vals vs us → t vs σ H Q →
    wpAny (model X.prog X.w) X.A (assignInOrder ((assignEach ts X.env).map (·.2)) us) (fun _ s' => ∃ σ' H', Inv X pins σ' H' s' ∧ Q σ' H') X.xe s
/-- o[i] = v, by values -/
abbrev TSet := V → V → V → Hp → (Hp → Prop) → Prop
def PSet (X : Cx) (t : TSet) : Prop :=
  ∀ (pins : List (Addr × Obj)) (s : Shared) (σ : St) (H : Hp) (o i v : V) (ov iv u : Value) (Q : Hp → Prop), Inv X pins σ H s → RelV o ov → RelV i iv → RelV v u → t o i v H Q →
    wpAny (model X.prog X.w) X.A (setItem ov iv u) (fun _ s' => ∃ H', Inv X pins σ H' s' ∧ Q H') X.xe s
/-- a op= b, by values -/
abbrev TIp := V → V → Hp → VK → Prop
def PIp (X : Cx) (op : Operator) (t : TIp) : Prop :=
  ∀ (pins : List (Addr × Obj)) (s : Shared) (σ : St) (H : Hp) (x y : V) (v u : Value) (Q : VK), Inv X pins σ H s → RelV x v → RelV y u → t x y H Q →
    wpAny (model X.prog X.w) X.A (inplaceOp op v u) (EP X pins σ Q) X.xe s
section
variable {X : Cx} {pos : Pos}
def gName (i : Nat) : TG := fun v σ H Q => Q (σ.set i (some v)) H
theorem pg_name {i : Nat} {x : Str} (hN : X.N.Nodup) (hi : X.N[i]? = some x) (hx : Loc X.env.scope x) (hf : X.fn x = true ∨ X.env.scope.names.lookup x = some .local := by first | exact .inl rfl | exact .inr rfl | assumption) : PG X (.Name x pos) (gName i) := by
  intro pins s σ H v u Q I r h
  exact wpAny_assign_Name (store_ok I hN hi hx r (fun s' I' => ⟨_, H, I', h⟩) hf)
def gNil : TGs := fun vs σ H Q => vs = [] ∧ Q σ H
def gCons (t : TG) (u : TGs) : TGs := fun vs σ H Q => ∃ v r, vs = v :: r ∧ t v σ H fun σ' H' => u r σ' H' Q
/-- (a, b, ..) = a tuple of that length -/
def gTup (K : PySem.W.Frag) (n : Nat) (t : TGs) : TG := fun v σ H Q => ∃ a xs, v = .ref a ∧ SqT K H a xs ∧ xs.length = n ∧ t xs σ H Q
/-- o[i] = .. -/
def gSub (to ti : TE) (t : TSet) : TG := fun v σ H Q => to σ H fun o H1 => ti σ H1 fun i H2 => t o i v H2 fun H3 => Q σ H3
/-- target = value -/
def tAsg (te : TE) (g : TG) : TS := fun D σ H => te σ H fun x H1 => g x σ H1 D.nx
/-- name = value -/
theorem ps_set {i : Nat} {x : Str} {e : Expr} {te : TE} {pos' : Pos} (hN : X.N.Nodup) (hi : X.N[i]? = some x) (hx : Loc X.env.scope x) (he : PE X e te) (hs : swapsWith e (some (.Name x pos')) pos.line X.env = pure false := by rfl) (hf : X.fn x = true ∨ X.env.scope.names.lookup x = some .local := by first | exact .inl rfl | exact .inr rfl | assumption) :
    PS X (.Assign [.Name x pos'] e pos) (tAsg te (gName i)) := by
  intro pins s σ H D I h
  refine wpAny_Assign_Name (thn (he pins s σ H _ I h) fun v s1 ⟨y, H1, I1, r1, q1⟩ => ?_) hs
  exact store_ok I1 hN hi hx r1 (fun s2 I2 => ⟨_, H1, I2, q1⟩) hf
/-- a, b = x, y with plain local names: stored from the right; the pair itself is not tracked (the opening rows as in PyProof/Rows/TupAssign.lean:23) -/
def tPar (i j : Nat) (ta : TA) : TS := fun D σ H => ta σ H fun vs H1 => ∃ v w, vs = [v, w] ∧ D.nx ((σ.set i (some v)).set j (some w)) H1
/-- name op= e -/
def tAug (i : Nat) (te : TE) (ti : TIp) : TS := fun D σ H => ∃ x, σ[i]? = some (some x) ∧ te σ H fun y H1 => ti x y H1 fun z H2 => D.nx (σ.set i (some z)) H2
/-- o[i] op= e -/
def tAugS (to ti te : TE) (tget : V → V → Hp → VK → Prop) (tip : TIp) (tset : TSet) : TS := fun D σ H => to σ H fun o H1 => ti σ H1 fun i H2 => tget o i H2 fun x H3 => te σ H3 fun y H4 => tip x y H4 fun z H5 => tset o i z H5 fun H6 => D.nx σ H6
/-- o[i], by values -/
def PGet (X : Cx) (t : V → V → Hp → VK → Prop) : Prop :=
  ∀ (pins : List (Addr × Obj)) (s : Shared) (σ : St) (H : Hp) (o i : V) (ov iv : Value) (Q : VK), Inv X pins σ H s → RelV o ov → RelV i iv → t o i H Q →
    wpAny (model X.prog X.w) X.A (getItem ov iv) (EP X pins σ Q) X.xe s
/-- ints -/
def ipI (f : Int → Int → Int) : TIp := fun x y H Q => ∃ i j, x = .int i ∧ y = .int j ∧ Q (.int (f i j)) H
end

/-! ### while -/
section
variable {X : Cx} {pos : Pos}
/-- the invariant W with its measure -/
def tWhile (c : TT) (tb : TS) : TS := fun D σ H => ∃ W : Nat → St → Hp → Prop, (∃ m, W m σ H) ∧ ∀ m σ H, W m σ H →
  c σ H fun b H1 => if b = true then ∃ N : St → Hp → Prop, (∀ σ' H', N σ' H' → ∃ m', m' < m ∧ W m' σ' H') ∧ tb { D with nx := N, ct := N, bk := D.nx } σ H1 else D.nx σ H1
end

/-! ### what a loop or a comprehension walks -/
/-- at turn i: it yields x (the heap may grow), or it stops -/
structure It where
  go : Nat → Hp → Prop
  yld : Nat → Hp → V → Hp → Prop
  stop : Nat → Hp → Prop
/-- the iterator's own objects may turn: they are not the frame's, not pinned, younger than the entry (or a comprehension's own) -/
def FpOk (X : Cx) (pins : List (Addr × Obj)) (H : Hp) (b : Addr) : Prop :=
  H b = none ∧ b ≠ X.env.locals ∧ b ∉ X.fs ∧ (b ∈ X.ex ∨ X.s₀.heap.objs.size ≤ b) ∧ (∀ x c, X.env.cells.lookup x = some c → c ≠ b) ∧ ∀ p ∈ X.pn ++ pins, p.1 ≠ b
theorem Inv.fpOk {X : Cx} {pins : List (Addr × Obj)} {σ : St} {H H' : Hp} {s : Shared} {b : Addr} (I : Inv X pins σ H s) (hb : s.heap.objs.size ≤ b) (hn : H' b = none) : FpOk X pins H' b := by
  refine ⟨hn, Nat.ne_of_gt (Nat.lt_of_lt_of_le I.lt hb), I.nofs hb, .inr (Nat.le_trans I.sz hb), fun x c e z => ?_, fun p hp z => ?_⟩
  · obtain ⟨v, q⟩ := I.cell x c e
    exact absurd (Nat.lt_of_lt_of_le q.lt (by rw [z]; exact hb)) (Nat.lt_irrefl _)
  · exact absurd (Nat.lt_of_lt_of_le (Heap.lt_size (I.pin p hp).1) (by rw [z]; exact hb)) (Nat.lt_irrefl _)
structure Turn (P : Program) (w : World) (K : PySem.W.Frag) (tg : Expr) (J : It) (fp : List Addr) (it : Addr) (tn : Nat → Heap → Prop) : Prop where
  mem : it ∈ fp
  obj : ∀ i h, tn i h → ∀ b ∈ fp, ∃ o, h.get? b = some o ∧ ∀ v, o.data ≠ .cell v
  keep : ∀ i h h', tn i h → (∀ b ∈ fp, ∀ o, h.get? b = some o → h'.get? b = some o) → tn i h'
  item : ∀ (X : Cx), X.prog = P → X.w = w → X.K = K → X.calm = true → ∀ (i : Nat) (pins : List (Addr × Obj)) (s : Shared) (σ : St) (H : Hp) (E : Value → Shared → Prop), Inv X pins σ H s → (∀ b ∈ fp, FpOk X pins H b) → tn i s.heap → J.go i H →
    wpAny (model P w) X.A (pyNext (.ref it)) (fun r s1 => ∃ u, r = some u ∧
      wpAny (model P w) X.A (letOwnedTupleGo tg (.ref it) u) (fun _ s2 => ∃ x H', Inv X pins σ H' s2 ∧ RelV x u ∧ J.yld i H x H' ∧ tn (i + 1) s2.heap ∧ ∀ b ∈ fp, H' b = none) E s1) E s
  done : ∀ (X : Cx), X.prog = P → X.w = w → X.K = K → X.calm = true → ∀ (i : Nat) (pins : List (Addr × Obj)) (s : Shared) (σ : St) (H : Hp) (E : Value → Shared → Prop), Inv X pins σ H s → (∀ b ∈ fp, FpOk X pins H b) → tn i s.heap → J.stop i H →
    wpAny (model P w) X.A (pyNext (.ref it)) (fun r s1 => r = none ∧ Inv X pins σ H s1) E s
  self : ∀ (A : Around) (i : Nat) (s : Shared) (Q : Value → Shared → Prop) (E : Value → Shared → Prop), tn i s.heap → Q (.ref it) s → wpAny (model P w) A (pyIter (.ref it)) Q E s
abbrev TI := St → Hp → (It → Hp → Prop) → Prop
/-- an iterator has come -/
def PIE (X : Cx) (pins : List (Addr × Obj)) (σ : St) (tg : Expr) (R : It → Hp → Prop) (itv : Value) (s2 : Shared) : Prop :=
  ∃ (it : Addr) (fp : List Addr) (tn : Nat → Heap → Prop) (J : It) (H' : Hp), itv = .ref it ∧ Inv X pins σ H' s2 ∧ Turn X.prog X.w X.K tg J fp it tn ∧ tn 0 s2.heap ∧ (∀ b ∈ fp, FpOk X pins H' b) ∧ R J H'
def PI (X : Cx) (tg iter : Expr) (wi : TI) : Prop :=
  ∀ (pins : List (Addr × Obj)) (s : Shared) (σ : St) (H : Hp) (R : It → Hp → Prop), Inv X pins σ H s → wi σ H R →
    wpAny (model X.prog X.w) X.A (eval iter X.env) (fun v s1 => wpAny (model X.prog X.w) X.A (pyIter v) (PIE X pins σ tg R) X.xe s1) X.xe s

/-- the step ahead of the store is nothing for an iterator that keeps no tuple -/
theorem go_of {M : Model} {A : Around} {E : Value → Shared → Prop} {s : Shared} {tg : Expr} {it : Addr} {u : Value} {o : Obj} {n : String} {vs : Array Value} {Q : Unit → Shared → Prop} (ho : s.heap.get? it = some o) (hc : o.cls = .type n) (hd : o.data = .fields vs)
    (hn : ["enumerate", "zip", "dict_itemiterator", "dict_reverseitemiterator", "odict_iterator", "itertools.zip_longest", "itertools.pairwise"].contains n = false) (hQ : Q () s) : wpAny M A (letOwnedTupleGo tg (.ref it) u) Q E s := by
  unfold letOwnedTupleGo
  cases tg <;> first
    | exact wpAny_pure hQ
    | (cases u <;> first
        | exact wpAny_pure hQ
        | (refine wpAny_bind (wpAny_load ho ?_)
           rw [hc, hd]
           show wpAny M A (if (["enumerate", "zip", "dict_itemiterator", "dict_reverseitemiterator", "odict_iterator", "itertools.zip_longest", "itertools.pairwise"].contains n && vs[0]? == some (rawInt _)) = true then _ else _) Q E s
           rw [if_neg (by intro h; rw [hn, Bool.false_and] at h; cases h)]
           exact wpAny_pure hQ))

/-- the list at a, as it stands at each turn (a loop may append to it) -/
def Itl (K : PySem.W.Frag) (a : Addr) : It :=
  ⟨fun i H => ∃ xs x, SqL K H a xs ∧ xs[i]? = some x, fun i H x H' => H' = H ∧ ∀ xs, SqL K H a xs → xs[i]? = some x, fun i H => ∃ xs, SqL K H a xs ∧ xs.length ≤ i⟩
def Itt (K : PySem.W.Frag) (a : Addr) : It :=
  ⟨fun i H => ∃ xs x, SqT K H a xs ∧ xs[i]? = some x, fun i H x H' => H' = H ∧ ∀ xs, SqT K H a xs → xs[i]? = some x, fun i H => ∃ xs, SqT K H a xs ∧ xs.length ≤ i⟩
/-- lo, lo + 1, .. (n of them) -/
def Itr (lo : Int) (n : Nat) : It := ⟨fun i _ => i < n, fun i H x H' => H' = H ∧ x = .int (lo + i), fun i _ => n ≤ i⟩
theorem turn_list {P : Program} {w : World} {K : PySem.W.Frag} {tg : Expr} (a it : Addr) : Turn P w K tg (Itl K a) [it] it (fun i h => h.IsListIter it a i) where
  mem := by simp
  obj := fun i h st b hb => by
    have e : b = it := by simpa using hb
    subst e
    obtain ⟨o, e, c, d⟩ := st
    exact ⟨o, e, fun v z => by rw [d] at z; cases z⟩
  keep := fun i h h' st k => st.at fun o e => k it (by simp) o e
  item := by
    intro X hP hw hK hc i pins s σ H E I hf st hg
    subst hP hw hK
    obtain ⟨xs, x, hq, hx⟩ := hg
    obtain ⟨its, rv, p, hz⟩ := I.list hq
    obtain ⟨u, hu, ru⟩ := rv.get hx
    obtain ⟨f0, f1, f2, f3, f4, f5⟩ := hf it (by simp)
    refine wpAny_pyNext_list_item st p.isList (x := u) (by simpa using hu) fun h' st' sb => ?_
    have I1 : Inv X pins σ H { s with heap := h' } := I.turned (t' := s.toks) (fun b o hb e => (sb.2 b hb).trans e) f0 f1 f3 f4 f5
    obtain ⟨o, e, c, d⟩ := id st'
    exact ⟨u, rfl, go_of (s := { s with heap := h' }) e c d (by decide) ⟨x, H, I1, ru, ⟨rfl, fun ys hy => by rw [I.list_inj hy hq]; exact hx⟩, st', fun b hb => (hf b hb).1⟩⟩
  done := by
    intro X hP hw hK hc i pins s σ H E I hf st hg
    subst hP hw hK
    obtain ⟨xs, hq, hx⟩ := hg
    obtain ⟨its, rv, p, hz⟩ := I.list hq
    obtain ⟨f0, f1, f2, f3, f4, f5⟩ := hf it (by simp)
    have hl := rv.length
    exact wpAny_pyNext_list_end (I.ok.hd hc) st p.isList (by simp; omega) fun h' eb => ⟨rfl, I.turned (t' := s.toks) (fun b o hb e => eb b o hb e) f0 f1 f3 f4 f5⟩
  self := fun _ _ _ _ _ st h => wpAny_pyIter_listiter st h
theorem turn_range {P : Program} {w : World} {K : PySem.W.Frag} {tg : Expr} (it : Addr) (lo : Int) (n : Nat) : Turn P w K tg (Itr lo n) [it] it (fun i h => IsRangeIter h it (lo + (i : Nat) * 1) ((n : Int) - (i : Nat)) 1) where
  mem := by simp
  obj := fun i h st b hb => by
    have e : b = it := by simpa using hb
    subst e
    exact ⟨_, st, fun v z => by
      have z' : Data.fields _ = Data.cell v := z
      cases z'⟩
  keep := fun i h h' st k => k it (by simp) _ st
  item := by
    intro X hP hw hK hc i pins s σ H E I hf st hg
    subst hP hw hK
    obtain ⟨f0, f1, f2, f3, f4, f5⟩ := hf it (by simp)
    have W := Walks.range (prog := X.prog) (w := X.w) (I.ok.hd hc) it lo 1 n
    refine W.item i s _ _ hg st fun v h' tk hv st' kk => ?_
    obtain ⟨t, rfl⟩ := hv
    have I1 : Inv X pins σ H { s with heap := h', toks := tk } := I.turned (fun b o hb e => kk b o (by simpa using hb) e) f0 f1 f3 f4 f5
    refine ⟨_, rfl, go_of (s := { s with heap := h', toks := tk }) (n := "range_iterator") st' rfl rfl (by decide) ⟨.int (lo + i), H, I1, ⟨t, ?_⟩, ⟨rfl, rfl⟩, st', fun b hb => (hf b hb).1⟩⟩
    rw [Int.mul_one]
  done := by
    intro X hP hw hK hc i pins s σ H E I hf st hg
    subst hP hw hK
    obtain ⟨f0, f1, f2, f3, f4, f5⟩ := hf it (by simp)
    exact wpAny_pyNext_range_end (I.ok.hd hc) st (by have : n ≤ i := hg; omega) fun h' eb => ⟨rfl, I.turned (t' := s.toks) (fun b o hb e => eb b o hb e) f0 f1 f3 f4 f5⟩
  self := fun _ _ _ _ _ st h => wpAny_pyIter_rangeiter st h
end L2

namespace L2
open PySem PySem.Spec PyProof.Rows
section
variable {X : Cx} {tg : Expr}
def iList (K : PySem.W.Frag) (tl : TE) : TI := fun σ H R => tl σ H fun x H1 => ∃ a, x = .ref a ∧ (∃ xs, SqL K H1 a xs) ∧ R (Itl K a) H1
def iTup (K : PySem.W.Frag) (tl : TE) : TI := fun σ H R => tl σ H fun x H1 => ∃ a, x = .ref a ∧ (∃ xs, SqT K H1 a xs) ∧ R (Itt K a) H1
theorem pi_list {l : Expr} {tl : TE} (hl : PE X l tl) : PI X tg l (iList X.K tl) := by
  intro pins s σ H R I h
  refine thn (hl pins s σ H _ I h) fun v s1 ⟨x, H1, I1, r1, q1⟩ => ?_
  obtain ⟨a, e, ⟨xs, hq⟩, q⟩ := q1
  subst e
  cases r1
  obtain ⟨its, rv, p, hz⟩ := I1.list hq
  refine wpAny_pyIter_list p.isList ?_
  refine ⟨s1.heap.objs.size, [s1.heap.objs.size], _, _, H1, rfl, I1.kept (t' := s1.toks) fun b o e => Heap.get?_push_of_some _ e, turn_list a _, ⟨_, Heap.get?_push_size _ rfl, rfl, rfl⟩, fun b hb => ?_, q⟩
  have e : b = s1.heap.objs.size := by simpa using hb
  subst e
  exact I1.fpOk (Nat.le_refl _) (I1.hok.fresh (Nat.le_refl _))
/-- a range object just made, walked -/
theorem range_it {pins : List (Addr × Obj)} {σ : St} {H : Hp} {s : Shared} {R : It → Hp → Prop} {E : Value → Shared → Prop} {lo hi : Int} {t u v : Tok} {tk : Nat} (I : Inv X pins σ H s) (h1 : -(2 ^ 62) ≤ lo) (h2 : lo < 2 ^ 62) (h3 : -(2 ^ 62) ≤ hi) (h4 : hi < 2 ^ 62)
    (q : R (Itr lo (hi - lo).toNat) H) : wpAny (model X.prog X.w) X.A (pyIter (.ref s.heap.objs.size)) (PIE X pins σ tg R) E { s with heap := s.heap.push { cls := .type "range", data := .fields #[.int lo t, .int hi u, .int 1 v] }, toks := tk } := by
  refine wpAny_pyIter_range (IsRange.new ..) (small_one h1 h2 h3 h4) ?_
  have I1 : Inv X pins σ H { s with heap := s.heap.push { cls := .type "range", data := .fields #[.int lo t, .int hi u, .int 1 v] }, toks := tk } := I.kept fun b o e => Heap.get?_push_of_some _ e
  refine ⟨(s.heap.push { cls := .type "range", data := .fields #[.int lo t, .int hi u, .int 1 v] }).objs.size, [(s.heap.push { cls := .type "range", data := .fields #[.int lo t, .int hi u, .int 1 v] }).objs.size], _, _, H, rfl,
    I1.kept (t' := tk) fun b o e => Heap.get?_push_of_some _ e, turn_range _ lo (hi - lo).toNat, ?_, fun b hb => ?_, q⟩
  · have e1 : lo + ((0 : Nat) : Int) * 1 = lo := by simp
    have e2 : (((hi - lo).toNat : Nat) : Int) - ((0 : Nat) : Int) = Builtin.Range.rangeSize lo hi 1 := by rw [rangeSize_one]; split <;> omega
    show IsRangeIter _ _ (lo + ((0 : Nat) : Int) * 1) ((((hi - lo).toNat : Nat) : Int) - ((0 : Nat) : Int)) 1
    rw [e1, e2]
    exact Heap.get?_push_size _ rfl
  · have e : b = (s.heap.push { cls := .type "range", data := .fields #[.int lo t, .int hi u, .int 1 v] }).objs.size := by simpa using hb
    subst e
    exact I1.fpOk (Nat.le_refl _) (I1.hok.fresh (Nat.le_refl _))
def iRng1 (ta : TA) : TI := fun σ H R => ta σ H fun vs H1 => ∃ j : Int, vs = [.int j] ∧ -(2 ^ 62) ≤ j ∧ j < 2 ^ 62 ∧ R (Itr 0 j.toNat) H1
def iRng2 (ta : TA) : TI := fun σ H R => ta σ H fun vs H1 => ∃ i j : Int, vs = [.int i, .int j] ∧ (-(2 ^ 62) ≤ i ∧ i < 2 ^ 62 ∧ -(2 ^ 62) ≤ j ∧ j < 2 ^ 62) ∧ R (Itr i (j - i).toNat) H1
theorem pi_range1 {a : Expr} {ta : TA} {p pos : Pos} (hg : Gl X "range") (hm : X.mg "range" = none) (ha : PA X [a] ta) (hs : starEach [a] X.env = [(false, eval a X.env)] := by rfl) : PI X tg (.Call (.Name "range" p) [a] [] pos) (iRng1 ta) := by
  intro pins s σ H R I h
  refine Call_ (ld_blt I hg hm boot_range (PyProof.Rows.callWith_type1 (thn (ha pos pins s σ H _ I h) fun us s1 ⟨vs, H1, I1, r1, q1⟩ => ?_) hs rfl))
  obtain ⟨j, e, q1, q2, q⟩ := q1
  subst e
  cases r1 with
  | cons r rr =>
    cases rr
    obtain ⟨t, rfl⟩ := r
    exact call_range_1 (range_it I1 (by omega) (by omega) q1 q2 (by simpa using q))

/-! ### for -/
/-- W: the invariant by the turn and a measure; N: what the body is to reach -/
def tFor (wi : TI) (g : TG) (tb : TS) : TS := fun D σ H => wi σ H fun J H1 => ∃ W : Nat → Nat → St → Hp → Prop, (∃ m, W 0 m σ H1) ∧ ∀ i m σ H, W i m σ H →
  (J.stop i H ∧ D.nx σ H) ∨ (J.go i H ∧ ∃ N : St → Hp → Prop, (∀ σ' H', N σ' H' → ∃ m', m' < m ∧ W (i + 1) m' σ' H') ∧ ∀ x H', J.yld i H x H' → g x σ H' fun σ2 H2 => tb { D with nx := N, ct := N, bk := D.nx } σ2 H2)
/-- the records at fp as they stand -/
def pinsAt (fp : List Addr) (h : Heap) : List (Addr × Obj) := fp.filterMap fun b => (h.get? b).map fun o => (b, o)
theorem mem_pinsAt {fp : List Addr} {h : Heap} {b : Addr} {o : Obj} (hb : b ∈ fp) (e : h.get? b = some o) : (b, o) ∈ pinsAt fp h := List.mem_filterMap.mpr ⟨b, hb, by rw [e]; rfl⟩
theorem of_pinsAt {fp : List Addr} {h : Heap} {p : Addr × Obj} (hp : p ∈ pinsAt fp h) : p.1 ∈ fp ∧ h.get? p.1 = some p.2 := by
  obtain ⟨b, hb, e⟩ := List.mem_filterMap.mp hp
  cases q : h.get? b with
  | none => rw [q] at e; cases e
  | some o =>
    rw [q] at e
    have e' : (b, o) = p := Option.some.inj e
    subst e'
    exact ⟨hb, q⟩
theorem Inv.pinned {pins : List (Addr × Obj)} {σ : St} {H : Hp} {s : Shared} {fp : List Addr} (I : Inv X pins σ H s) (hf : ∀ b ∈ fp, FpOk X pins H b) (ho : ∀ b ∈ fp, ∃ o, s.heap.get? b = some o ∧ ∀ v, o.data ≠ .cell v) : Inv X (pins ++ pinsAt fp s.heap) σ H s :=
  I.pins_of fun p hp => (List.mem_append.mp hp).elim (fun z => I.pin p (List.mem_append_right _ z)) fun z => by
    obtain ⟨hb, e⟩ := of_pinsAt z
    obtain ⟨f0, f1, f2, _⟩ := hf p.1 hb
    obtain ⟨o, e', d⟩ := ho p.1 hb
    rw [e] at e'; cases e'
    exact ⟨e, f0, f1, f2, d⟩
theorem Inv.unpinned {pins pl : List (Addr × Obj)} {σ : St} {H : Hp} {s : Shared} (I : Inv X (pins ++ pl) σ H s) : Inv X pins σ H s := I.pins_of fun p hp => I.pin p (List.mem_append_right _ (List.mem_append_left _ hp))
theorem ps_for {iter : Expr} {body : List Stmt} {wi : TI} {g : TG} {tb : TS} {pos : Pos} (hp : PassesOwn (model X.prog X.w) X.A X.env X.xe) (hc : X.calm = true) (hi : PI X tg iter wi) (hg : PG X tg g) (hb : PSs X body tb)
    (hs : ∀ x, foldedSetIterable iter X.env x = pure x := by intro _; rfl) : PS X (.For tg iter body [] pos) (tFor wi g tb) := by
  intro pins s σ H D I h
  refine wpAny_For (thn (hi pins s σ H _ I h) fun v s1 h1 => thn h1 fun itv s2 h2 => ?_) hs
  obtain ⟨it, fp, tn, J, H2, e, I2, T, st2, f2, W, ⟨m0, w0⟩, turn⟩ := h2
  subst e
  -- what stays true of the iterator's objects through the loop
  have stat : ∀ {H' : Hp}, (∀ b ∈ fp, H' b = none) → ∀ b ∈ fp, FpOk X pins H' b := fun hn b hb => ⟨hn b hb, (f2 b hb).2⟩
  refine codeAny_forLoop_any (fun n s' => ∃ i σ' H', Inv X pins σ' H' s' ∧ tn i s'.heap ∧ (∀ b ∈ fp, H' b = none) ∧ W i n σ' H') ?_ m0 ⟨0, σ, H2, I2, st2, fun b hb => (f2 b hb).1, w0⟩
  rintro n s3 ⟨i, σ3, H3, I3, st3, fr3, w3⟩
  rcases turn i n σ3 H3 w3 with ⟨stop, qn⟩ | ⟨go, N, hN, step⟩
  · refine wpAny_passesOwn hp (thn (T.done X rfl rfl rfl hc i pins s3 σ3 H3 X.xe I3 (stat fr3) st3 stop) fun r s4 ⟨hr, I4⟩ => ?_)
    subst hr
    exact wpAny_execs_nil ⟨σ3, H3, I4, qn⟩
  · refine wpAny_passesOwn hp (thn (T.item X rfl rfl rfl hc i pins s3 σ3 H3 X.xe I3 (stat fr3) st3 go) fun r s4 ⟨u, hr, h4⟩ => ?_)
    subst hr
    refine wpAny_passesOwn hp (thn h4 fun _ s5 ⟨x, H5, I5, r5, y5, st5, fr5⟩ => ?_)
    have I5' := I5.pinned (stat fr5) (T.obj _ _ st5)
    refine wpAny_passesOwn hp (thn (hg _ s5 σ3 H5 x u _ I5' r5 (step x H5 y5)) fun _ s6 ⟨σ6, H6, I6, q6⟩ => ?_)
    refine wpAny_passesOwn hp (thn (hb _ s6 σ6 H6 _ I6 q6) fun f s7 q7 => ?_)
    have again : ∀ {σ7 : St} {H7 : Hp}, Inv X (pins ++ pinsAt fp s5.heap) σ7 H7 s7 → N σ7 H7 → ∃ m, m < n ∧ ∃ i σ' H', Inv X pins σ' H' s7 ∧ tn i s7.heap ∧ (∀ b ∈ fp, H' b = none) ∧ W i m σ' H' := fun {σ7 H7} I7 n7 => by
      obtain ⟨m', hm, w7⟩ := hN σ7 H7 n7
      refine ⟨m', hm, i + 1, σ7, H7, I7.unpinned, T.keep _ _ _ st5 fun b hb o e => (I7.pin (b, o) (List.mem_append_right _ (List.mem_append_right _ (mem_pinsAt hb e)))).1, fun b hb => ?_, w7⟩
      obtain ⟨o, e, d⟩ := T.obj _ _ st5 b hb
      exact (I7.pin (b, o) (List.mem_append_right _ (List.mem_append_right _ (mem_pinsAt hb e)))).2.1
    cases f with
    | next => obtain ⟨σ7, H7, I7, n7⟩ := q7; exact again I7 n7
    | cont => obtain ⟨σ7, H7, I7, n7⟩ := q7; exact again I7 n7
    | brk => obtain ⟨σ7, H7, I7, q7⟩ := q7; exact ⟨σ7, H7, I7.unpinned, q7⟩
    | ret v => obtain ⟨x7, σ7, H7, I7, r7, q7⟩ := q7; exact ⟨x7, σ7, H7, I7.unpinned, r7, q7⟩
end

/-! ### the forms one uses -/
/-- over a list that the body leaves as it is -/
theorem for_list {K : PySem.W.Frag} {a : Addr} {xs : List V} {g : TG} {tb : TS} {D : Ends} {σ : St} {H : Hp} (Pv : Nat → St → Hp → Prop) (h0 : Pv 0 σ H) (hl : ∀ i σ H, i ≤ xs.length → Pv i σ H → SqL K H a xs)
    (hs : ∀ i x σ H, xs[i]? = some x → Pv i σ H → g x σ H fun σ2 H2 => tb { D with nx := Pv (i + 1), ct := Pv (i + 1), bk := D.nx } σ2 H2) (hd : ∀ σ H, Pv xs.length σ H → D.nx σ H) :
    ∃ W : Nat → Nat → St → Hp → Prop, (∃ m, W 0 m σ H) ∧ ∀ i m σ H, W i m σ H →
      ((Itl K a).stop i H ∧ D.nx σ H) ∨ ((Itl K a).go i H ∧ ∃ N : St → Hp → Prop, (∀ σ' H', N σ' H' → ∃ m', m' < m ∧ W (i + 1) m' σ' H') ∧ ∀ x H', (Itl K a).yld i H x H' → g x σ H' fun σ2 H2 => tb { D with nx := N, ct := N, bk := D.nx } σ2 H2) := by
  refine ⟨fun i m σ H => m = xs.length - i ∧ i ≤ xs.length ∧ Pv i σ H, ⟨xs.length, by simp, Nat.zero_le _, h0⟩, ?_⟩
  rintro i m σ H ⟨rfl, hi, p⟩
  have q := hl i σ H hi p
  by_cases hlt : i < xs.length
  · refine .inr ⟨⟨xs, xs[i], q, by simp [hlt]⟩, Pv (i + 1), fun σ' H' p' => ⟨xs.length - (i + 1), by omega, rfl, hlt, p'⟩, fun x H' y => ?_⟩
    obtain ⟨e, y⟩ := y
    subst e
    exact hs i x σ _ (y xs q) p
  · have e : i = xs.length := by omega
    subst e
    exact .inl ⟨⟨xs, q, Nat.le_refl _⟩, hd σ H p⟩
theorem for_range {lo : Int} {n : Nat} {g : TG} {tb : TS} {D : Ends} {σ : St} {H : Hp} (Pv : Nat → St → Hp → Prop) (h0 : Pv 0 σ H)
    (hs : ∀ i σ H, i < n → Pv i σ H → g (.int (lo + i)) σ H fun σ2 H2 => tb { D with nx := Pv (i + 1), ct := Pv (i + 1), bk := D.nx } σ2 H2) (hd : ∀ σ H, Pv n σ H → D.nx σ H) :
    ∃ W : Nat → Nat → St → Hp → Prop, (∃ m, W 0 m σ H) ∧ ∀ i m σ H, W i m σ H →
      ((Itr lo n).stop i H ∧ D.nx σ H) ∨ ((Itr lo n).go i H ∧ ∃ N : St → Hp → Prop, (∀ σ' H', N σ' H' → ∃ m', m' < m ∧ W (i + 1) m' σ' H') ∧ ∀ x H', (Itr lo n).yld i H x H' → g x σ H' fun σ2 H2 => tb { D with nx := N, ct := N, bk := D.nx } σ2 H2) := by
  refine ⟨fun i m σ H => m = n - i ∧ i ≤ n ∧ Pv i σ H, ⟨n, by simp, Nat.zero_le _, h0⟩, ?_⟩
  rintro i m σ H ⟨rfl, hi, p⟩
  by_cases hlt : i < n
  · refine .inr ⟨hlt, Pv (i + 1), fun σ' H' p' => ⟨n - (i + 1), by omega, rfl, hlt, p'⟩, fun x H' y => ?_⟩
    obtain ⟨e, y⟩ := y
    subst e y
    exact hs i σ _ hlt p
  · have e : i = n := by omega
    subst e
    exact .inl ⟨Nat.le_refl _, hd σ H p⟩
end L2

namespace L2
open PySem PySem.Spec PyProof.Rows

abbrev R2 := V → V → Hp → VK → Prop
/-- a two-place operation on values: f is binaryOp op, inplaceOp op or compareOp op -/
def OpR (X : Cx) (f : Value → Value → Sem Value) (r : R2) : Prop :=
  ∀ (pins : List (Addr × Obj)) (s : Shared) (σ : St) (H : Hp) (x y : V) (v u : Value) (Q : VK), Inv X pins σ H s → RelV x v → RelV y u → r x y H Q →
    wpAny (model X.prog X.w) X.A (f v u) (EP X pins σ Q) X.xe s
/-- a one-place operation -/
def UnR (X : Cx) (f : Value → Sem Value) (r : V → Hp → VK → Prop) : Prop :=
  ∀ (pins : List (Addr × Obj)) (s : Shared) (σ : St) (H : Hp) (x : V) (v : Value) (Q : VK), Inv X pins σ H s → RelV x v → r x H Q →
    wpAny (model X.prog X.w) X.A (f v) (EP X pins σ Q) X.xe s
/-- a call of a value that is known (a builtin, a type) with values -/
def CallR (X : Cx) (f : Value) (r : List V → Hp → VK → Prop) : Prop :=
  ∀ (pins : List (Addr × Obj)) (s : Shared) (σ : St) (H : Hp) (xs : List V) (us : List Value) (Q : VK), Inv X pins σ H s → Vals xs us → r xs H Q →
    wpAny (model X.prog X.w) X.A (call f us) (EP X pins σ Q) X.xe s
/-- a value's truth -/
def TruR (X : Cx) (r : V → Hp → (Bool → Hp → Prop) → Prop) : Prop :=
  ∀ (pins : List (Addr × Obj)) (s : Shared) (σ : St) (H : Hp) (x : V) (v : Value) (Q : Bool → Hp → Prop), Inv X pins σ H s → RelV x v → r x H Q →
    wpAny (model X.prog X.w) X.A (truthy v) (TP X pins σ Q) X.xe s

def tOp (r : R2) (ta tb : TE) : TE := fun σ H Q => ta σ H fun x H1 => tb σ H1 fun y H2 => r x y H2 Q
def tUn (r : V → Hp → VK → Prop) (ta : TE) : TE := fun σ H Q => ta σ H fun x H1 => r x H1 Q
/-- ints in, under C, and a value out -/
def rI (C : Int → Int → Prop) (g : Int → Int → V) : R2 := fun x y H Q => ∃ i j, x = .int i ∧ y = .int j ∧ C i j ∧ Q (g i j) H
def rI0 (g : Int → Int → V) : R2 := fun x y H Q => ∃ i j, x = .int i ∧ y = .int j ∧ Q (g i j) H
def rU (g : Int → V) : V → Hp → VK → Prop := fun x H Q => ∃ i, x = .int i ∧ Q (g i) H

section
variable {X : Cx} {a b c : Expr} {ta tb tc : TE} {pos : Pos}

theorem binT (ha : PE X a ta) (hb : PE X b tb) {pins : List (Addr × Obj)} {s : Shared} {σ : St} {H : Hp} {R : V → V → Hp → Prop} (I : Inv X pins σ H s)
    (h : ta σ H fun x H1 => tb σ H1 fun y H2 => R x y H2) {Q : Value → Shared → Prop} {f : Value → Value → Sem Value}
    (hf : ∀ v u s2 x y H2, Inv X pins σ H2 s2 → RelV x v → RelV y u → R x y H2 → wpAny (model X.prog X.w) X.A (f v u) Q X.xe s2) :
    wpAny (model X.prog X.w) X.A (eval a X.env) (fun v s₁ => wpAny (model X.prog X.w) X.A (eval b X.env) (fun u s₂ => wpAny (model X.prog X.w) X.A (f v u) Q X.xe s₂) X.xe s₁) X.xe s := by
  refine thn (ha pins s σ H _ I h) fun v s1 ⟨x, H1, I1, r1, q1⟩ => ?_
  refine thn (hb pins s1 σ H1 _ I1 q1) fun u s2 ⟨y, H2, I2, r2, q2⟩ => ?_
  exact hf v u s2 x y H2 I2 r1 r2 q2

theorem pe_op {op : Operator} {r : R2} (ho : OpR X (binaryOp op) r) (ha : PE X a ta) (hb : PE X b tb) : PE X (.BinOp a op b pos) (tOp r ta tb) := by
  intro pins s σ H Q I h
  exact wpAny_BinOp (binT ha hb I h fun v u s2 x y H2 I2 rx ry q => ho pins s2 σ H2 x y v u Q I2 rx ry q)

/-! ### ints -/
theorem opI {f : Value → Value → Sem Value} {C : Int → Int → Prop} {g : Int → Int → Int}
    (rule : ∀ (i j : Int) (t u : Tok) (s : Shared) (Q : Value → Shared → Prop) (E : Value → Shared → Prop), C i j → Q (.int (g i j) s.toks) { s with toks := s.toks + 1 } → wpAny (model X.prog X.w) X.A (f (.int i t) (.int j u)) Q E s) :
    OpR X f (rI C fun i j => .int (g i j)) := by
  intro pins s σ H x y v u Q I rx ry h
  obtain ⟨i, j, rfl, rfl, hc, q⟩ := h
  obtain ⟨t, rfl⟩ := rx
  obtain ⟨t', rfl⟩ := ry
  exact rule i j t t' s _ _ hc ⟨.int (g i j), H, I.tok _, ⟨_, rfl⟩, q⟩
theorem opI0 {f : Value → Value → Sem Value} {g : Int → Int → Int}
    (rule : ∀ (i j : Int) (t u : Tok) (s : Shared) (Q : Value → Shared → Prop) (E : Value → Shared → Prop), Q (.int (g i j) s.toks) { s with toks := s.toks + 1 } → wpAny (model X.prog X.w) X.A (f (.int i t) (.int j u)) Q E s) :
    OpR X f (rI0 fun i j => .int (g i j)) := by
  intro pins s σ H x y v u Q I rx ry h
  obtain ⟨i, j, rfl, rfl, q⟩ := h
  obtain ⟨t, rfl⟩ := rx
  obtain ⟨t', rfl⟩ := ry
  exact rule i j t t' s _ _ ⟨.int (g i j), H, I.tok _, ⟨_, rfl⟩, q⟩
theorem opB0 {f : Value → Value → Sem Value} {g : Int → Int → Bool}
    (rule : ∀ (i j : Int) (t u : Tok) (s : Shared) (Q : Value → Shared → Prop) (E : Value → Shared → Prop), Q (.bool (g i j)) s → wpAny (model X.prog X.w) X.A (f (.int i t) (.int j u)) Q E s) :
    OpR X f (rI0 fun i j => .bl (g i j)) := by
  intro pins s σ H x y v u Q I rx ry h
  obtain ⟨i, j, rfl, rfl, q⟩ := h
  obtain ⟨t, rfl⟩ := rx
  obtain ⟨t', rfl⟩ := ry
  exact rule i j t t' s _ _ ⟨.bl (g i j), H, I, rfl, q⟩

def CDiv (i j : Int) : Prop := 0 < j ∧ j < 1073741824
def CDivN (i j : Int) : Prop := j ≠ 0 ∧ j.natAbs < 1073741824
def CPow (i j : Int) : Prop := 0 ≤ j ∧ j ≤ 1000000 ∧ i.natAbs < 2 ^ 64
def CMul (i j : Int) : Prop := (-(2 ^ 64) < i ∧ i < 2 ^ 64) ∨ (-(2 ^ 64) < j ∧ j < 2 ^ 64)
theorem CMul.ok {i j : Int} (h : CMul i j) : IntMulOk i j := by
  rcases h with ⟨h1, h2⟩ | ⟨h1, h2⟩
  · exact .of_left (intBits_le_64 h1 h2)
  · exact .of_right (intBits_le_64 h1 h2)

theorem op_add : OpR X (binaryOp .Add) (rI0 fun i j => .int (i + j)) := opI0 fun _ _ _ _ _ _ _ q => add_int q
theorem op_sub : OpR X (binaryOp .Sub) (rI0 fun i j => .int (i - j)) := opI0 fun _ _ _ _ _ _ _ q => sub_int q
theorem op_mul : OpR X (binaryOp .Mult) (rI CMul fun i j => .int (i * j)) := opI fun _ _ _ _ _ _ _ hc q => mul_int q hc.ok
/-- // by a positive divisor -/
theorem op_fdiv : OpR X (binaryOp .FloorDiv) (rI CDiv fun i j => .int (i / j)) := opI fun i j _ _ _ _ _ hc q => by
  have h1 : (0 : Int) < j := hc.1
  have h2 : j < 1073741824 := hc.2
  exact floordiv_int (by omega) (by rw [Int.fdiv_eq_ediv_of_nonneg i (by omega)]; exact q) (.inl (PyProof.noPylong_small (by omega)))
/-- % by a positive divisor of any size -/
theorem op_mod : OpR X (binaryOp .Mod) (rI (fun _ j => 0 < j) fun i j => .int (i % j)) := opI fun i j _ _ _ _ _ hc q => by
  have h1 : (0 : Int) < j := hc
  exact mod_int' (by omega) (by rw [Int.fmod_eq_emod_of_nonneg i (by omega)]; exact q)
theorem op_pow : OpR X (binaryOp .Pow) (rI CPow fun i j => .int (i ^ j.toNat)) := opI fun _ _ _ _ _ _ _ hc q => pow_int_small hc.1 hc.2.1 hc.2.2 q



/-! ### bools among ints: n += (a < b) -/
end

/-! ### comparisons -/
/-- the scalars that == tells apart as data does -/
def scal : V → V → Bool
  | .non, .non => true | .non, .int _ => true | .int _, .non => true | .non, .bl _ => true | .bl _, .non => true | .non, .str _ => true | .str _, .non => true
  | .int _, .int _ => true | .bl _, .bl _ => true | .str _, .str _ => true | .byt _, .byt _ => true
  | .int _, .str _ => true | .str _, .int _ => true | .bl _, .str _ => true | .str _, .bl _ => true
  | _, _ => false
def rEq : R2 := fun x y H Q => scal x y = true ∧ Q (.bl (decide (x = y))) H
def rNe : R2 := fun x y H Q => scal x y = true ∧ Q (.bl (!decide (x = y))) H

theorem dec_int {i j : Int} : decide (V.int i = V.int j) = (i == j) := by
  rw [Bool.eq_iff_iff]
  simp
theorem dec_bl {i j : Bool} : decide (V.bl i = V.bl j) = (i == j) := by
  rw [Bool.eq_iff_iff]
  simp
theorem dec_str {i j : Str} : decide (V.str i = V.str j) = (i == j) := by
  rw [Bool.eq_iff_iff]
  simp
theorem dec_byt {i j : Array UInt8} : decide (V.byt i = V.byt j) = (i.toList == j.toList) := by
  rw [Bool.eq_iff_iff]
  cases i
  cases j
  simp

section
variable {X : Cx} {a b c : Expr} {ta tb tc : TE} {pos : Pos}
theorem fin_bl {pins : List (Addr × Obj)} {σ : St} {H : Hp} {s : Shared} {Q : VK} {k k' : Bool} (I : Inv X pins σ H s) (q : Q (.bl k) H) (e : k = k') : EP X pins σ Q (.bool k') s := by
  subst e
  exact ⟨.bl k, H, I, rfl, q⟩
theorem op_eq : OpR X (compareOp .Eq) rEq := by
  intro pins s σ H x y v u Q I rx ry h
  obtain ⟨hs, q⟩ := h
  cases x with
  | non =>
    cases rx
    cases y with
    | non => cases ry; exact PySem.EqNone.eq_none_none (fin_bl I q (by simp))
    | bl j => cases ry; exact PySem.EqNone.eq_none_bool (fin_bl I q (by simp))
    | int j => obtain ⟨t', rfl⟩ := ry; exact PySem.EqNone.eq_none_int (fin_bl I q (by simp))
    | str j => obtain ⟨t', rfl⟩ := ry; exact PySem.EqNone.eq_none_str (fin_bl I q (by simp))
    | _ => exact absurd (show false = true from hs) Bool.false_ne_true
  | bl i =>
    cases rx
    cases y with
    | non => cases ry; exact PySem.EqNone.eq_bool_none (fin_bl I q (by simp))
    | bl j => cases ry; exact eq_bool (fin_bl I q dec_bl)
    | str j => obtain ⟨t', rfl⟩ := ry; exact PySem.EqMixed.eq_bool_str (fin_bl I q (by simp))
    | _ => exact absurd (show false = true from hs) Bool.false_ne_true
  | int i =>
    obtain ⟨t, rfl⟩ := rx
    cases y with
    | non => cases ry; exact PySem.EqNone.eq_int_none (fin_bl I q (by simp))
    | int j => obtain ⟨t', rfl⟩ := ry; exact eq_int (fin_bl I q dec_int)
    | str j => obtain ⟨t', rfl⟩ := ry; exact PySem.EqMixed.eq_int_str (fin_bl I q (by simp))
    | _ => exact absurd (show false = true from hs) Bool.false_ne_true
  | str i =>
    obtain ⟨t, rfl⟩ := rx
    cases y with
    | non => cases ry; exact PySem.EqNone.eq_str_none (fin_bl I q (by simp))
    | bl j => cases ry; exact PySem.EqMixed.eq_str_bool (fin_bl I q (by simp))
    | int j => obtain ⟨t', rfl⟩ := ry; exact PySem.EqMixed.eq_str_int (fin_bl I q (by simp))
    | str j => obtain ⟨t', rfl⟩ := ry; exact eq_str (fin_bl I q dec_str)
    | _ => exact absurd (show false = true from hs) Bool.false_ne_true
  | byt i =>
    obtain ⟨t, rfl⟩ := rx
    cases y with
    | byt j => obtain ⟨t', rfl⟩ := ry; exact PySem.W.eq_bytes (fin_bl I q dec_byt)
    | _ => exact absurd (show false = true from hs) Bool.false_ne_true
  | _ => cases y <;> exact absurd (show false = true from hs) Bool.false_ne_true
theorem op_ne : OpR X (compareOp .NotEq) rNe := by
  intro pins s σ H x y v u Q I rx ry h
  obtain ⟨hs, q⟩ := h
  cases x with
  | non =>
    cases rx
    cases y with
    | non => cases ry; exact PySem.EqNone.ne_none_none (fin_bl I q (by simp))
    | bl j => cases ry; exact PySem.EqNone.ne_none_bool (fin_bl I q (by simp))
    | int j => obtain ⟨t', rfl⟩ := ry; exact PySem.EqNone.ne_none_int (fin_bl I q (by simp))
    | str j => obtain ⟨t', rfl⟩ := ry; exact PySem.EqNone.ne_none_str (fin_bl I q (by simp))
    | _ => exact absurd (show false = true from hs) Bool.false_ne_true
  | bl i =>
    cases rx
    cases y with
    | non => cases ry; exact PySem.EqNone.ne_bool_none (fin_bl I q (by simp))
    | bl j => cases ry; exact ne_bool (fin_bl I q (congrArg not dec_bl))
    | str j => obtain ⟨t', rfl⟩ := ry; exact PySem.EqMixed.ne_bool_str (fin_bl I q (by simp))
    | _ => exact absurd (show false = true from hs) Bool.false_ne_true
  | int i =>
    obtain ⟨t, rfl⟩ := rx
    cases y with
    | non => cases ry; exact PySem.EqNone.ne_int_none (fin_bl I q (by simp))
    | int j => obtain ⟨t', rfl⟩ := ry; exact ne_int (fin_bl I q (congrArg not dec_int))
    | str j => obtain ⟨t', rfl⟩ := ry; exact PySem.EqMixed.ne_int_str (fin_bl I q (by simp))
    | _ => exact absurd (show false = true from hs) Bool.false_ne_true
  | str i =>
    obtain ⟨t, rfl⟩ := rx
    cases y with
    | non => cases ry; exact PySem.EqNone.ne_str_none (fin_bl I q (by simp))
    | bl j => cases ry; exact PySem.EqMixed.ne_str_bool (fin_bl I q (by simp))
    | int j => obtain ⟨t', rfl⟩ := ry; exact PySem.EqMixed.ne_str_int (fin_bl I q (by simp))
    | str j => obtain ⟨t', rfl⟩ := ry; exact ne_str (fin_bl I q (congrArg not dec_str))
    | _ => exact absurd (show false = true from hs) Bool.false_ne_true
  | byt i =>
    obtain ⟨t, rfl⟩ := rx
    cases y with
    | byt j => obtain ⟨t', rfl⟩ := ry; exact PySem.W.ne_bytes (fin_bl I q (congrArg not dec_byt))
    | _ => exact absurd (show false = true from hs) Bool.false_ne_true
  | _ => cases y <;> exact absurd (show false = true from hs) Bool.false_ne_true

theorem op_lt : OpR X (compareOp .Lt) (rI0 fun i j => .bl (decide (i < j))) := opB0 fun _ _ _ _ _ _ _ q => lt_int q
theorem op_le : OpR X (compareOp .LtE) (rI0 fun i j => .bl (decide (i ≤ j))) := opB0 fun _ _ _ _ _ _ _ q => le_int q
theorem op_gt : OpR X (compareOp .Gt) (rI0 fun i j => .bl (decide (j < i))) := opB0 fun _ _ _ _ _ _ _ q => gt_int q
/-- the one string within the other -/
theorem op_in_str : OpR X (compareOp .In) (fun x y H Q => ∃ i j, x = .str i ∧ y = .str j ∧ Q (.bl (!(Builtin.Str.occurrences j i 0 j.length 1).isEmpty)) H) := by
  intro pins s σ H x y v u Q I rx ry h
  obtain ⟨i, j, rfl, rfl, q⟩ := h
  obtain ⟨t, rfl⟩ := rx
  obtain ⟨t', rfl⟩ := ry
  exact in_str (fin_bl I q rfl)

/-- is None, is not None: the right side a value none -/
theorem op_isN : OpR X (compareOp .Is) (fun x y H Q => y = .non ∧ Q (.bl (decide (x = .non))) H) := by
  intro pins s σ H x y v u Q I rx ry h
  obtain ⟨rfl, q⟩ := h
  cases ry
  refine is_none_gen (fin_bl I q ?_)
  cases x <;> first
    | (cases rx; rfl)
    | (obtain ⟨t, rfl⟩ := rx; rfl)

/-- is, is not of two objects that are tracked lists or instances -/
def isObj : HO → Bool
  | .lst _ => true
  | .ins _ _ _ => true
  | _ => false

/-- two rules for one operation: by cases -/
theorem OpR.or {f : Value → Value → Sem Value} {r r' : R2} (h : OpR X f r) (h' : OpR X f r') : OpR X f (fun x y H Q => r x y H Q ∨ r' x y H Q) := by
  intro pins s σ H x y v u Q I rx ry q
  rcases q with q | q
  · exact h pins s σ H x y v u Q I rx ry q
  · exact h' pins s σ H x y v u Q I rx ry q

theorem nomark (b : Expr) {op : CmpOp} (h : op ≠ .In := by decide) (h2 : op ≠ .NotIn := by decide) : behindInMarks op b = false := by
  have e1 : (op == CmpOp.In) = false := by cases op <;> first | rfl | exact absurd rfl h
  have e2 : (op == CmpOp.NotIn) = false := by cases op <;> first | rfl | exact absurd rfl h2
  cases b <;> simp [behindInMarks, e1, e2]
/-- a comparison as a value; hm: nomark b, or (for in, not in) by with_unfolding_all rfl -/
theorem pe_cmpR {op : CmpOp} {r : R2} (ho : OpR X (compareOp op) r) (ha : PE X a ta) (hb : PE X b tb) (hm : behindInMarks op b = false) : PE X (.Compare a [op] [b] pos) (tOp r ta tb) := by
  intro pins s σ H Q I h
  exact wpAny_Compare1 (binT ha hb I h fun v u s2 x y H2 I2 rx ry q => ho pins s2 σ H2 x y v u Q I2 rx ry q) hm
/-- a reading of a value as a test -/
def tTest (t : TE) : TT := fun σ H Q => t σ H fun x H' => ∃ k, x = .bl k ∧ Q k H'
theorem pt_cmpR {op : CmpOp} {r : R2} (ho : OpR X (compareOp op) r) (ha : PE X a ta) (hb : PE X b tb) (hm : behindInMarks op b = false) : PT X (.Compare a [op] [b] pos) (tTest (tOp r ta tb)) := by
  intro pins s σ H Q I h
  refine wpAny_isTrue_Compare1 (thn (ha pins s σ H _ I h) fun v s1 ⟨x, H1, I1, r1, q1⟩ => thn (hb pins s1 σ H1 _ I1 q1) fun u s2 ⟨y, H2, I2, r2, q2⟩ =>
    thn (ho pins s2 σ H2 x y v u _ I2 r1 r2 q2) fun c s3 ⟨z, H3, I3, r3, k, e, q3⟩ => ?_) hm
  subst e
  cases r3
  exact wpAny_truthy_bool ⟨H3, I3, q3⟩
/-- a op1 b op2 c -/
def tChain (r r' : R2) (ta tb tc : TE) : TE := fun σ H Q => ta σ H fun x H1 => tb σ H1 fun y H2 => r x y H2 fun z H3 => ∃ k, z = .bl k ∧
  (if k = true then tc σ H3 fun w' H4 => r' y w' H4 Q else Q (.bl false) H3)
theorem pe_chain {op op' : CmpOp} {r r' : R2} (ho : OpR X (compareOp op) r) (ho' : OpR X (compareOp op') r') (ha : PE X a ta) (hb : PE X b tb) (hc : PE X c tc)
    (hm : lastMarks [op, op'] [b, c] = false := by with_unfolding_all rfl) : PE X (.Compare a [op, op'] [b, c] pos) (tChain r r' ta tb tc) := by
  intro pins s σ H Q I h
  refine Compare_chain (thn (ha pins s σ H _ I h) fun v s1 ⟨x, H1, I1, r1, q1⟩ => chain_link (thn (hb pins s1 σ H1 _ I1 q1) fun u s2 ⟨y, H2, I2, r2, q2⟩ =>
    thn (ho pins s2 σ H2 x y v u _ I2 r1 r2 q2) fun d s3 ⟨z, H3, I3, r3, k, e, q3⟩ => ?_)) hm
  subst e
  cases r3
  refine wpAny_truthy_bool ?_
  cases k with
  | false => exact ite_ff ⟨.bl false, H3, I3, rfl, q3⟩
  | true => exact ite_tt (chain_last (thn (hc pins s3 σ H3 _ I3 q3) fun w' s4 ⟨z', H4, I4, r4, q4⟩ => ho' pins s4 σ H4 y z' u w' Q I4 r2 r4 q4))
theorem pt_chain {op op' : CmpOp} {r r' : R2} (ho : OpR X (compareOp op) r) (ho' : OpR X (compareOp op') r') (ha : PE X a ta) (hb : PE X b tb) (hc : PE X c tc)
    (hm : lastMarks [op, op'] [b, c] = false := by with_unfolding_all rfl) : PT X (.Compare a [op, op'] [b, c] pos) (tTest (tChain r r' ta tb tc)) := by
  intro pins s σ H Q I h
  refine isTrue_chain (thn (ha pins s σ H _ I h) fun v s1 ⟨x, H1, I1, r1, q1⟩ => test_link (thn (hb pins s1 σ H1 _ I1 q1) fun u s2 ⟨y, H2, I2, r2, q2⟩ =>
    thn (ho pins s2 σ H2 x y v u _ I2 r1 r2 q2) fun d s3 ⟨z, H3, I3, r3, k, e, q3⟩ => ?_)) hm
  subst e
  cases r3
  refine wpAny_truthy_bool ?_
  cases k with
  | false =>
    obtain ⟨k', e', q'⟩ := q3
    cases e'
    exact ite_ff ⟨H3, I3, q'⟩
  | true =>
    refine ite_tt (test_last (thn (hc pins s3 σ H3 _ I3 q3) fun w' s4 ⟨z', H4, I4, r4, q4⟩ => thn (ho' pins s4 σ H4 y z' u w' _ I4 r2 r4 q4) fun d' s5 ⟨z2, H5, I5, r5, k2, e2, q5⟩ => ?_))
    subst e2
    cases r5
    exact wpAny_truthy_bool ⟨H5, I5, q5⟩

/-! ### truth -/
/-- a value's truth by the abstract heap -/
def TruV (K : PySem.W.Frag) (x : V) (H : Hp) (k : Bool) : Prop :=
  match x with
  | .non => k = false
  | .bl b => k = b
  | .int i => k = (i != 0)
  | .str y => y.length ≤ sizeLine ∧ k = ((y.length : Int) != 0)
  | .byt y => y.size ≤ sizeLine ∧ k = ((y.size : Int) != 0)
  | .ref p => (∃ xs, SqL K H p xs ∧ k = !xs.isEmpty) ∨ (∃ xs, SqT K H p xs ∧ k = !xs.isEmpty) ∨ ∃ kvs, H p = some (.dK kvs) ∧ k = !kvs.isEmpty
  | _ => False
theorem isEmpty_kv {κ : Type} {kvs : List (κ × V)} {vs : List (κ × Value)} (r : KV kvs vs) : (!vs.isEmpty) = !kvs.isEmpty := by
  cases r <;> rfl
theorem isEmpty_of {xs : List V} {its : List Value} (r : Vals xs its) : (!its.toArray.isEmpty) = !xs.isEmpty := by
  cases r <;> simp
theorem line63 : (sizeLine : Nat) < 2 ^ 63 := by rw [sizeLine_eq]; decide
theorem tru_ok : TruR X (fun x H Q => ∃ k, TruV X.K x H k ∧ Q k H) := by
  intro pins s σ H x v Q I rx h
  obtain ⟨k, e, q⟩ := h
  have hl := line63
  have hs : sizeLine = 16777216 := sizeLine_eq
  cases x with
  | non =>
    cases rx
    have e' : k = false := e
    subst e'
    exact truthy_none ⟨H, I, q⟩
  | bl b =>
    cases rx
    have e' : k = b := e
    subst e'
    exact wpAny_truthy_bool ⟨H, I, q⟩
  | int i =>
    obtain ⟨t, rfl⟩ := rx
    have e' : k = (i != 0) := e
    subst e'
    exact PySem.P.truthy_int ⟨H, I, q⟩
  | str y =>
    obtain ⟨t, rfl⟩ := rx
    obtain ⟨hy, e'⟩ : y.length ≤ sizeLine ∧ k = ((y.length : Int) != 0) := e
    subst e'
    exact PySem.P.truthy_str (by omega) ⟨H, I.tok _, q⟩
  | byt y =>
    obtain ⟨t, rfl⟩ := rx
    obtain ⟨hy, e'⟩ : y.size ≤ sizeLine ∧ k = ((y.size : Int) != 0) := e
    subst e'
    exact PySem.W.truthy_bytes (by omega) ⟨H, I.tok _, q⟩
  | ref p =>
    cases rx
    have e' : (∃ xs, SqL X.K H p xs ∧ k = !xs.isEmpty) ∨ (∃ xs, SqT X.K H p xs ∧ k = !xs.isEmpty) ∨ ∃ kvs, H p = some (.dK kvs) ∧ k = !kvs.isEmpty := e
    rcases e' with ⟨xs, hx, e'⟩ | ⟨xs, hx, e'⟩ | ⟨kvs, hx, e'⟩
    · subst e'
      obtain ⟨its, r, pl, hz⟩ := I.list hx
      have hlen := r.length
      exact wpAny_truthy_list pl.isList (by simp only [List.size_toArray]; omega) ⟨H, I.tok _, by rw [isEmpty_of r]; exact q⟩
    · subst e'
      obtain ⟨its, r, pl, hz⟩ := I.tuple hx
      have hlen := r.length
      exact truthy_tuple pl (by simp only [List.size_toArray]; omega) ⟨H, I.tok _, by rw [isEmpty_of r]; exact q⟩
    · subst e'
      obtain ⟨hz, hS, vs, r, m⟩ : kvs.length ≤ sizeLine ∧ (p == sysModules) = false ∧ ∃ vs, KV kvs vs ∧ s.heap.DictOf (mixKind X.prog X.w) p vs := I.hok p _ hx
      have hlen : kvs.length = vs.length := Paired.length r
      exact wpAny_truthy_dict hS m (by omega) ⟨H, I.tok _, by rw [isEmpty_kv r]; exact q⟩
  | _ => exact (show False from e).elim

/-! ### strs and bytes -/
theorem op_add_str : OpR X (binaryOp .Add) (fun x y H Q => ∃ i j, x = .str i ∧ y = .str j ∧ i.length + j.length ≤ sizeLine ∧ Q (.str (i ++ j)) H) := by
  intro pins s σ H x y v u Q I rx ry h
  obtain ⟨i, j, rfl, rfl, hz, q⟩ := h
  obtain ⟨t, rfl⟩ := rx
  obtain ⟨t', rfl⟩ := ry
  exact add_str (fun t' tk => ⟨.str (i ++ j), H, I.tok _, ⟨_, rfl⟩, q⟩) hz

def PlainIxT (b : Expr) : Prop := ∀ o i, subscripted b false o i = operate [o, i] (getItem o i)

/-! ### scalar builtins, by CallR -/
theorem vals1 {x : V} {us : List Value} (r : Vals [x] us) : ∃ u, us = [u] ∧ RelV x u := by
  cases r with
  | cons r1 r2 => cases r2; exact ⟨_, rfl, r1⟩
theorem vals2 {x y : V} {us : List Value} (r : Vals [x, y] us) : ∃ u w', us = [u, w'] ∧ RelV x u ∧ RelV y w' := by
  cases r with
  | cons r1 r2 =>
    cases r2 with
    | cons r3 r4 => cases r4; exact ⟨_, _, rfl, r1, r3⟩
theorem call_max2 (hc : X.calm = true) : CallR X (.builtin "max") (fun xs H Q => ∃ i j, xs = [.int i, .int j] ∧ Q (.int (if j > i then j else i)) H) := by
  intro pins s σ H xs us Q I r h
  obtain ⟨i, j, rfl, q⟩ := h
  obtain ⟨u, w', rfl, ⟨t, rfl⟩, ⟨t', rfl⟩⟩ := vals2 r
  refine max_two_ints (I.ok.hd hc) fun h' tk k => ⟨_, H, I.kept k, ?_, q⟩
  by_cases hj : j > i
  · rw [if_pos hj, if_pos hj]; exact ⟨_, rfl⟩
  · rw [if_neg hj, if_neg hj]; exact ⟨_, rfl⟩
theorem call_min2 (hc : X.calm = true) : CallR X (.builtin "min") (fun xs H Q => ∃ i j, xs = [.int i, .int j] ∧ Q (.int (if j < i then j else i)) H) := by
  intro pins s σ H xs us Q I r h
  obtain ⟨i, j, rfl, q⟩ := h
  obtain ⟨u, w', rfl, ⟨t, rfl⟩, ⟨t', rfl⟩⟩ := vals2 r
  refine min_two_ints (I.ok.hd hc) fun h' tk k => ⟨_, H, I.kept k, ?_, q⟩
  by_cases hj : j < i
  · rw [if_pos hj, if_pos hj]; exact ⟨_, rfl⟩
  · rw [if_neg hj, if_neg hj]; exact ⟨_, rfl⟩
theorem call_str_int : CallR X (.type "str") (fun xs H Q => ∃ i, xs = [.int i] ∧ i.natAbs.log2 < 1920 ∧ Q (.str (toString i)) H) := by
  intro pins s σ H xs us Q I r h
  obtain ⟨i, rfl, hz, q⟩ := h
  obtain ⟨u, rfl, t, rfl⟩ := vals1 r
  exact PySem.P.str_of_int hz ⟨.str _, H, I.tok _, ⟨_, rfl⟩, q⟩
/-- len of a str, a bytes, a list, a tuple -/
def LenV (K : PySem.W.Frag) (x : V) (H : Hp) (n : Nat) : Prop :=
  match x with
  | .str y => y.length ≤ sizeLine ∧ n = y.length
  | .byt y => y.size ≤ sizeLine ∧ n = y.size
  | .ref p => (∃ xs, SqL K H p xs ∧ n = xs.length) ∨ ∃ xs, SqT K H p xs ∧ n = xs.length
  | _ => False
theorem call_len : CallR X (.builtin "len") (fun xs H Q => ∃ x n, xs = [x] ∧ LenV X.K x H n ∧ Q (.int n) H) := by
  intro pins s σ H xs us Q I r h
  obtain ⟨x, n, rfl, e, q⟩ := h
  obtain ⟨u, rfl, rx⟩ := vals1 r
  have hl := line63
  have hs : sizeLine = 16777216 := sizeLine_eq
  cases x with
  | str y =>
    obtain ⟨t, rfl⟩ := rx
    obtain ⟨hy, e'⟩ : y.length ≤ sizeLine ∧ n = y.length := e
    subst e'
    exact len_str (by omega) ⟨.int _, H, I.tok _, ⟨_, rfl⟩, q⟩
  | byt y =>
    obtain ⟨t, rfl⟩ := rx
    obtain ⟨hy, e'⟩ : y.size ≤ sizeLine ∧ n = y.size := e
    subst e'
    exact PySem.W.len_bytes (by omega) ⟨.int _, H, I.tok _, ⟨_, rfl⟩, q⟩
  | ref p =>
    cases rx
    have e' : (∃ xs, SqL X.K H p xs ∧ n = xs.length) ∨ ∃ xs, SqT X.K H p xs ∧ n = xs.length := e
    rcases e' with ⟨xs, hx, e'⟩ | ⟨xs, hx, e'⟩
    · subst e'
      obtain ⟨its, r', pl, hz⟩ := I.list hx
      have hlen := r'.length
      exact Calls.call_len_list pl.isList (by simp only [List.size_toArray]; omega) ⟨.int xs.length, H, I.tok _, ⟨_, by simp only [List.size_toArray]; rw [hlen]⟩, q⟩
    · subst e'
      obtain ⟨its, r', pl, hz⟩ := I.tuple hx
      have hlen := r'.length
      exact len_tuple pl (by simp only [List.size_toArray]; omega) ⟨.int xs.length, H, I.tok _, ⟨_, by simp only [List.size_toArray]; rw [hlen]⟩, q⟩
  | _ => exact (show False from e).elim
end
end L2

namespace L2
open PySem PySem.Spec PyProof.Rows

/-! ### an instance, its attributes a map -/
structure ObjM (h : Heap) (x dx C : Addr) (mA : Str → Option Value) : Prop where
  obj : h.get? x = some (PySem.W.instObj C dx)
  ns : h.Ns1 dx mA
  ne : dx ≠ x

theorem lookIn_ns {h : Heap} {dx : Addr} {mA : Str → Option Value} (n : h.Ns1 dx mA) : ∃ od, h.get? dx = some od ∧ ∀ name, PySem.W.lookIn name od = some (mA name) := by
  obtain ⟨o, es, ep, ho, hd, hk, _, hm⟩ := n
  refine ⟨o, ho, fun name => ?_⟩
  have e := hm name
  unfold nsFind findBy at e
  rw [← Array.find?_toList] at e
  unfold PySem.W.lookIn
  rw [hd]
  dsimp only
  split
  · rename_i y q
    rw [q] at e
    exact congrArg some e
  · rename_i q
    rw [q] at e
    have a : es.toList.any (·.refKey) = false := by
      rw [List.any_eq_false]
      intro y hy
      obtain ⟨z, t, hkey⟩ := hk y (Array.mem_toList_iff.mp hy)
      simp [DictEntry.refKey, hkey]
    have a' : ¬ es.toList.any (·.refKey) = true := by rw [a]; exact Bool.false_ne_true
    rw [if_neg a']
    exact congrArg some e

theorem ObjM.look {h : Heap} {x dx C : Addr} {mA : Str → Option Value} (I : ObjM h x dx C mA) : ∃ od, PySem.W.InstAt h x (PySem.W.instObj C dx) C (some od) ∧ ∀ name, PySem.W.lookIn name od = some (mA name) :=
  let ⟨od, ho, hl⟩ := lookIn_ns I.ns
  ⟨od, ⟨I.obj, rfl, rfl, ho⟩, hl⟩

section
variable {prog : Program} {w : World} {A : Around} {E : Value → Shared → Prop} {s : Shared} {K : PySem.W.Frag} {x dx C f : Addr} {mA : Str → Option Value} {name : Str} {v : Value}





end

/-! ### the attributes as a list of pairs -/
def putF (f : Str) (v : V) : List (Str × V) → List (Str × V)
  | [] => [(f, v)]
  | (g, x) :: r => if g = f then (g, v) :: r else (g, x) :: putF f v r
theorem lookup_putF (f g : Str) (v : V) : ∀ fs : List (Str × V), (putF f v fs).lookup g = if g = f then some v else fs.lookup g
  | [] => by
    show List.lookup g [(f, v)] = _
    by_cases h : g = f
    · have hb : (g == f) = true := beq_iff_eq.mpr h
      simp only [List.lookup, hb, if_pos h]
    · have hb : (g == f) = false := beq_eq_false_iff_ne.mpr h
      simp only [List.lookup, hb, if_neg h]
  | (k, x) :: r => by
    have ih := lookup_putF f g v r
    rw [show putF f v ((k, x) :: r) = (if k = f then (k, v) :: r else (k, x) :: putF f v r) from rfl]
    by_cases hk : k = f
    · rw [if_pos hk]
      by_cases h : g = k
      · have hb : (g == k) = true := beq_iff_eq.mpr h
        simp only [List.lookup, hb, if_pos (h.trans hk)]
      · have hb : (g == k) = false := beq_eq_false_iff_ne.mpr h
        simp only [List.lookup, hb, if_neg (fun e : g = f => h (e.trans hk.symm))]
    · rw [if_neg hk]
      by_cases h : g = k
      · have hb : (g == k) = true := beq_iff_eq.mpr h
        simp only [List.lookup, hb, if_neg (fun e : g = f => hk (h.symm.trans e))]
      · have hb : (g == k) = false := beq_eq_false_iff_ne.mpr h
        simp only [List.lookup, hb]
        exact ih
theorem keys_putF (f : Str) (v : V) : ∀ fs : List (Str × V), f ∈ (putF f v fs).map (·.1) ∧ ∀ g, g ∈ fs.map (·.1) → g ∈ (putF f v fs).map (·.1)
  | [] => ⟨by simp [putF], fun g h => by simp at h⟩
  | (k, x) :: r => by
    obtain ⟨i1, i2⟩ := keys_putF f v r
    rw [show putF f v ((k, x) :: r) = (if k = f then (k, v) :: r else (k, x) :: putF f v r) from rfl]
    by_cases hk : k = f
    · rw [if_pos hk]
      subst hk
      exact ⟨by simp, fun g h => by simpa using h⟩
    · rw [if_neg hk]
      refine ⟨?_, fun g h => ?_⟩
      · rw [List.map_cons]
        exact List.mem_cons_of_mem _ i1
      · rw [List.map_cons] at h ⊢
        rcases List.mem_cons.mp h with e | e
        · exact List.mem_cons.mpr (.inl e)
        · exact List.mem_cons_of_mem _ (i2 g e)

theorem RelO.some_of {v : V} {o : Option Value} (r : RelO (some v) o) : ∃ u, o = some u ∧ RelV v u := by
  cases o with
  | none => exact (show False from r).elim
  | some u => exact ⟨u, rfl, r⟩
theorem handed_of {v : V} {u : Value} (r : RelV v u) : PySem.W.handedIn u = true := by
  cases v with
  | non => cases (show u = Value.none from r); rfl
  | bl b => cases (show u = Value.bool b from r); rfl
  | int i => obtain ⟨t, e⟩ := (show ∃ t, u = Value.int i t from r); cases e; rfl
  | str x => obtain ⟨t, e⟩ := (show ∃ t, u = Value.str x t from r); cases e; rfl
  | byt b => obtain ⟨t, e⟩ := (show ∃ t, u = Value.bytes b t from r); cases e; rfl
  | flt b => obtain ⟨t, e⟩ := (show ∃ t, u = Value.float b t from r); cases e; rfl
  | ref a => cases (show u = Value.ref a from r); rfl
  | ty n => cases (show u = Value.type n from r); rfl

section
variable {P : Program} {w : World} {H H' : Hp} {h h' : Heap} {a C dx : Addr} {fs fs' : List (Str × V)}
end

/-! ### what of the text a class must have -/
structure Cls (K : PySem.W.Frag) (C : Addr) : Prop where
  pg : PySem.W.plainGet K C Str.empty = true
  hd : PySem.W.hasDictIn K C = true
  po : PySem.W.plainOver K C = true
  sa : PySem.W.findIn K (.ref C) "__setattr__" = some (some (.builtin "object.__setattr__"))
theorem Cls.get {K : PySem.W.Frag} {C : Addr} (c : Cls K C) (f : Str) : PySem.W.plainGet K C f = true := c.pg
/-- no class of it has the name -/
def NoAttr (K : PySem.W.Frag) (C : Addr) (f : Str) : Prop := PySem.W.findIn K (.ref C) f = some none
/-- a constant of the class -/
structure Con (K : PySem.W.Frag) (C : Addr) (f : Str) (v : V) (u : Value) : Prop where
  at_ : PySem.W.findIn K (.ref C) f = some (some u)
  rel : RelV v u
  get : PySem.W.specialIn K u "__get__" = some none
  cp : PySem.W.copiedNames.contains f = false
/-- a method: a plain def of the class or of one above it -/
structure Meth (K : PySem.W.Frag) (C : Addr) (m : Str) (f : Addr) : Prop where
  at_ : PySem.W.findIn K (.ref C) m = some (some (.ref f))
  fn : PySem.W.isFn K (.ref f) = true
  kp : PySem.W.keepIn K (.ref f) = true

section
variable {X : Cx} {pins : List (Addr × Obj)} {σ : St} {H : Hp} {s : Shared} {a C dx : Addr} {fs : List (Str × V)} {f : Str} {v : V} {A : Around} {E : Value → Shared → Prop}





/-- a new instance, tracked, without attributes -/
theorem Inv.made (I : Inv X pins σ H s) : Inv X pins σ (upd (upd H s.heap.objs.size (.own (s.heap.objs.size + 1))) (s.heap.objs.size + 1) (.ins C s.heap.objs.size []))
    { s with heap := (s.heap.push PySem.W.emptyDict).push (PySem.W.instObj C s.heap.objs.size) } := by
  have e1 : (s.heap.push PySem.W.emptyDict).get? s.heap.objs.size = some PySem.W.emptyDict := Heap.get?_push_size s.heap rfl
  have e2 : ((s.heap.push PySem.W.emptyDict).push (PySem.W.instObj C s.heap.objs.size)).get? (s.heap.objs.size + 1) = some (PySem.W.instObj C s.heap.objs.size) := by
    have := Heap.get?_push_size (s.heap.push PySem.W.emptyDict) (o := PySem.W.instObj C s.heap.objs.size) rfl
    rwa [Heap.size_push] at this
  have e3 : (s.heap.push PySem.W.emptyDict).Ns s.heap.objs.size (fun _ => none) := ⟨PySem.W.emptyDict, #[], _, e1, rfl, (fun e he => absurd he (by simp)), fun _ => rfl⟩
  have I1 := I.laid (a := s.heap.objs.size) (o := .own (s.heap.objs.size + 1)) (h' := s.heap.push PySem.W.emptyDict) (t' := s.toks) (fun b u q => Heap.get?_push_of_some _ q) (Nat.le_refl _) ⟨_, e1⟩
  refine I1.laid (a := s.heap.objs.size + 1) (o := .ins C s.heap.objs.size []) (t' := s.toks) (fun b u q => Heap.get?_push_of_some _ q) (Nat.le_of_eq (Heap.size_push _ _)) ?_
  have ne : s.heap.objs.size ≠ s.heap.objs.size + 1 := Nat.ne_of_lt (Nat.lt_succ_self _)
  refine ⟨by rw [upd_ne ne, upd_same], Nat.zero_le _, ne, e2, fun _ => none, (Heap.Ns1.of_empty e3).at fun o q => Heap.get?_push_of_some _ q, fun _ => True.intro, fun y hy => absurd rfl hy⟩

/-- e.f where nothing but the object is asked: through attributeBase (super) and the last hold -/
theorem attr_of {prog : Program} {w : World} {env : Env} {e : Expr} {f : Str} {pos : Pos} {s : Shared} {Q : Value → Shared → Prop} (hb : attributeBase e f env (eval e env) = eval e env)
    (h : wpAny (model prog w) A (eval e env) (fun o s₁ => wpAny (model prog w) A (getAttr o f true) Q E s₁) E s) : wpAny (model prog w) A (eval (.Attribute e f pos) env) Q E s :=
  Attribute_any_ h (by rw [arm_eval_Attribute, hb])
end

/-! ### readings and rules -/
/-- e.f, an attribute of the instance -/
def tFld (K : PySem.W.Frag) (ta : TE) (f : Str) : TE := fun σ H Q => ta σ H fun x H1 => ∃ a C dx fs v, x = .ref a ∧ H1 a = some (.ins C dx fs) ∧ Cls K C ∧ NoAttr K C f ∧ fs.lookup f = some v ∧ Q v H1
/-- e.f, a constant of the class -/
def tCon (K : PySem.W.Frag) (ta : TE) (f : Str) : TE := fun σ H Q => ta σ H fun x H1 => ∃ a C dx fs v u, x = .ref a ∧ H1 a = some (.ins C dx fs) ∧ Cls K C ∧ Con K C f v u ∧ fs.lookup f = none ∧ Q v H1
/-- e.f = value -/
def sFld (K : PySem.W.Frag) (ta tv : TE) (f : Str) : TS := fun D σ H => tv σ H fun y H1 => ta σ H1 fun x H2 => ∃ a C dx fs, x = .ref a ∧ H2 a = some (.ins C dx fs) ∧ Cls K C ∧ NoAttr K C f ∧ fs.length < 1000 ∧
  D.nx σ (upd H2 a (.ins C dx (putF f y fs)))
/-- an augmented operator on two values -/
def InOp (X : Cx) (op : Operator) (rd : V → V → Hp → VK → Prop) : Prop :=
  ∀ (pins : List (Addr × Obj)) (s : Shared) (σ : St) (H : Hp) (x y : V) (u v : Value) (Q : VK), Inv X pins σ H s → RelV x u → RelV y v → rd x y H Q → wpAny (model X.prog X.w) X.A (inplaceOp op u v) (EP X pins σ Q) X.xe s
/-- e.f op= value -/
def sFldAug (K : PySem.W.Frag) (ta tv : TE) (rd : V → V → Hp → VK → Prop) (f : Str) : TS := fun D σ H => ta σ H fun x H1 => ∃ a C dx fs v, x = .ref a ∧ H1 a = some (.ins C dx fs) ∧ Cls K C ∧ NoAttr K C f ∧ fs.lookup f = some v ∧
  tv σ H1 fun y H2 => rd v y H2 fun z H3 => ∃ dx' fs', H3 a = some (.ins C dx' fs') ∧ fs'.length < 1000 ∧ D.nx σ (upd H3 a (.ins C dx' (putF f z fs')))

section
variable {X : Cx} {o e value : Expr} {f : Str} {pos pos' tpos : Pos} {ta tv : TE}
def rAdd : V → V → Hp → VK → Prop := fun x y H Q => ∃ i j, x = .int i ∧ y = .int j ∧ Q (.int (i + j)) H
def rSub : V → V → Hp → VK → Prop := fun x y H Q => ∃ i j, x = .int i ∧ y = .int j ∧ Q (.int (i - j)) H

end

/-! ### isinstance -/
section
variable {X : Cx} {pins : List (Addr × Obj)} {σ : St} {H : Hp} {s : Shared} {A : Around} {E : Value → Shared → Prop} {Q : Value → Shared → Prop} {c : Value} {b : Bool}
/-- the type of a value, as the fragment's deciders take it; for an instance its class -/
inductive TyOf (K : PySem.W.Frag) (H : Hp) : V → Value → Prop where
  | non : TyOf K H .non (.type "NoneType")
  | bl (x : Bool) : TyOf K H (.bl x) (.type "bool")
  | int (i : Int) : TyOf K H (.int i) (.type "int")
  | str (x : Str) : TyOf K H (.str x) (.type "str")
  | flt (x : UInt64) : TyOf K H (.flt x) (.type "float")
  | lst {a : Addr} {xs : List V} (e : H a = some (.lst xs)) : TyOf K H (.ref a) (.type "list")
  | frz {a : Addr} {o : Obj} {xs : List V} (e : H a = some (.frz o (.lst xs))) : TyOf K H (.ref a) (.type "list")
  | tup {a : Addr} {xs : List V} (e : H a = some (.tup xs)) : TyOf K H (.ref a) (.type "tuple")
  | dK {a : Addr} {kvs : List (Key × V)} (e : H a = some (.dK kvs)) : TyOf K H (.ref a) (.type "dict")
  | dT {a : Addr} {kvs : List (List Key × V)} (e : H a = some (.dT kvs)) : TyOf K H (.ref a) (.type "dict")
  | ins {a C dx : Addr} {fs : List (Str × V)} (e : H a = some (.ins C dx fs)) (cl : Cls K C) (ha : PySem.W.findIn K (.ref C) "__class__" = some (some (.builtin "object.__class__")))
      (hn : PySem.W.specialIn K (.builtin "object.__class__") "__get__" = some (some (.builtin "getset_descriptor.__get__"))) (htk : PySem.W.takesIn K (.builtin "object.__class__") = some true)
      (hm : PySem.W.mroIn K C (.type "object") = some true) : TyOf K H (.ref a) (.ref C)
end
end L2

namespace L2
open PySem PySem.Spec PyProof.Rows

/-! ### room -/
structure Room (k : Nat) (A : Around) : Prop where
  hd : A.handled = none
  dp : A.depth + 3 * k + 5 < recursionLimit
  un : A.units + 16 * k + 200 < cLine
theorem Room.mono {j k : Nat} {A : Around} (r : Room k A) (h : j ≤ k) : Room j A := ⟨r.hd, by have := r.dp; omega, by have := r.un; omega⟩
theorem Room.deeper {k : Nat} {A : Around} (r : Room (k + 1) A) (env : Env) : Room k (A.deeper env) :=
  ⟨r.hd, by have := r.dp; show A.depth + 1 + 3 * k + 5 < _; omega, by have := r.un; show A.units + 3 + 16 * k + 200 < _; omega⟩
theorem Room.in1 {k : Nat} {A : Around} (r : Room (k + 1) A) : Room k A.in1 :=
  ⟨r.hd, by have := r.dp; show A.depth + 3 * k + 5 < _; omega, by have := r.un; show A.units + 1 + 16 * k + 200 < _; omega⟩
theorem make_depth {A : Around} {C : Addr} {us : List Value} {kw : List (Str × Value)} : (A.under (.builtin "type.__call__" ⟨.ref C :: us, kw⟩)).depth = A.depth + 1 := by
  first | rfl | simp [Around.under, Code.weight, Code.isCreation, Code.isGuard, Code.isCaller, Code.frames, Code.isFrame, guardIds]
theorem make_units {A : Around} {C : Addr} {us : List Value} {kw : List (Str × Value)} : (A.under (.builtin "type.__call__" ⟨.ref C :: us, kw⟩)).units = A.units + 1 := by
  first | rfl | simp [Around.under, Code.cUnits, Code.frames, Code.isFrame]
theorem Room.make {k : Nat} {A : Around} (r : Room (k + 1) A) (C : Addr) (us : List Value) (kw : List (Str × Value)) : Room k (A.under (.builtin "type.__call__" ⟨.ref C :: us, kw⟩)) :=
  ⟨r.hd, by have := r.dp; rw [make_depth]; omega, by have := r.un; rw [make_units]; omega⟩
theorem Room.depth {k : Nat} {A : Around} (r : Room k A) : A.depth < recursionLimit := by have := r.dp; omega
theorem Room.units {k : Nat} {A : Around} (r : Room k A) : A.units + 64 < cLine := by have := r.un; omega

/-! ### argument lists and displays -/
def tNil : TA := fun _ H Q => Q [] H
def tCons (ta : TE) (tr : TA) : TA := fun σ H Q => ta σ H fun x H1 => tr σ H1 fun xs H2 => Q (x :: xs) H2
section
variable {X : Cx} {e : Expr} {es : List Expr} {te : TE} {t : TA} {pos : Pos}
theorem pa_nil : PA X [] tNil := fun _ _ _ _ H Q I h => Calls.spliced_nil ⟨[], H, I, .nil, h⟩
theorem pa_cons (ha : PE X e te) (hr : PA X es t) (hs : starEach (e :: es) X.env = (false, eval e X.env) :: starEach es X.env := by rfl) : PA X (e :: es) (tCons te t) := by
  intro pos pins s σ H Q I h
  rw [hs]
  show wpAny _ _ (spliced ((false, eval e X.env) :: backTo pos (starEach es X.env))) _ _ s
  refine Calls.spliced_cons (thn (ha pins s σ H _ I h) fun u s1 ⟨x, H1, I1, r1, q1⟩ => ?_)
  exact thn (hr pos pins s1 σ H1 _ I1 q1) fun us s2 ⟨xs, H2, I2, r2, q2⟩ => ⟨x :: xs, H2, I2, .cons r1 r2, q2⟩

/-- a tuple, a list of written items -/
def tTup (t : TA) : TE := fun σ H Q => t σ H fun xs H1 => xs.length ≤ sizeLine ∧ ∀ p, H1 p = none → Q (.ref p) (upd H1 p (.tup xs))
def tLst (t : TA) : TE := fun σ H Q => t σ H fun xs H1 => xs.length ≤ sizeLine ∧ ∀ p, H1 p = none → Q (.ref p) (upd H1 p (.lst xs))
theorem pe_tup {x1} (h : PA X es t) : PE X (.Tuple es x1 pos) (tTup t) := by
  intro pins s σ H Q I hq
  refine wpAny_Tuple_spliced (thn (h pos pins s σ H _ I hq) fun us s1 ⟨xs, H1, I1, r, z, q⟩ => ⟨by rw [← r.length]; exact z, ?_⟩)
  have hf : H1 s1.heap.objs.size = none := I1.hok.fresh (Nat.le_refl _)
  refine ⟨.ref s1.heap.objs.size, upd H1 s1.heap.objs.size (.tup xs), I1.laid (t' := s1.toks) (fun b u e => Heap.get?_push_of_some _ e) (Nat.le_refl _) ?_, rfl, q _ hf⟩
  exact ⟨z, us, r, ⟨_, Heap.get?_push_size _ rfl, rfl, _, rfl⟩⟩
theorem pe_lst (h : PA X es t) : PE X (.List es pos) (tLst t) := by
  intro pins s σ H Q I hq
  refine wpAny_List_spliced (thn (h pos pins s σ H _ I hq) fun us s1 ⟨xs, H1, I1, r, z, q⟩ => ⟨by rw [← r.length]; exact z, ?_⟩)
  have hf : H1 s1.heap.objs.size = none := I1.hok.fresh (Nat.le_refl _)
  refine ⟨.ref s1.heap.objs.size, upd H1 s1.heap.objs.size (.lst xs), I1.laid (t' := s1.toks) (fun b u e => Heap.get?_push_of_some _ e) (Nat.le_refl _) ?_, rfl, q _ hf⟩
  exact ⟨z, us, 0, r, Heap.get?_push_size _ rfl⟩
end

/-! ### what a def promises -/
/-- a def's promise: the bound arguments in the parameters' order, the heap, the wanted end, the wanted exception -/
abbrev Sp := List V → Hp → VK → XK → Prop
/-- how an exception lies behind a call (file 08 gives it): the callers' frames, abstract heap and state ahead of the call, the wish, the exception, the state -/
abbrev CXT := List Env → Hp → Shared → XK → Value → Shared → Prop

/-- the state at a call -/
structure Env0 (P : Program) (w : World) (K : PySem.W.Frag) (mg : Str → Option Value) (base : Heap) (A : Around) (outer : List Env) (s : Shared) (H : Hp) : Prop where
  frames : A.frames = some outer
  mod : Mod K mg base
  bs : ∀ b o, base.get? b = some o → s.heap.get? b = some o ∧ H b = none
  bsz : base.objs.size ≤ s.heap.objs.size
  funs : s.heap.FunFrames base outer
  frf : ∀ b ∈ frs outer, H b = none
  hok : HOk P w H s.heap
  bare : AllBare s.gens
/-- a call's end -/
def CE (outer : List Env) (P : Program) (w : World) (H : Hp) (s : Shared) (Q : VK) (u : Value) (s' : Shared) : Prop :=
  ∃ v H', s'.os = s.os ∧ AllBare s'.gens ∧ Un (frs outer) [] H H' s.heap s'.heap ∧ HOk P w H' s'.heap ∧ RelV v u ∧ Q v H'
def CR (CX : CXT) (outer : List Env) (P : Program) (w : World) (H : Hp) (s : Shared) (Q : VK) (E : XK) (r : Result) (s' : Shared) : Prop :=
  match r with
  | .ok (.ret u) => CE outer P w H s Q u s'
  | .ok _ => False
  | .error e => CX outer H s E e s'
structure FnOk (P : Program) (w : World) (K : PySem.W.Frag) (mg : Str → Option Value) (base : Heap) (CX : CXT) (k : Nat) (f : Addr) (fd : FuncData) (ps : List Str) (sp : Sp) : Prop where
  len : ∀ vs H Q E, sp vs H Q E → vs.length = ps.length
  run : ∀ (A : Around) (outer : List Env) (s : Shared) (H : Hp) (args : Args) (us : List Value) (vs : List V) (Q : VK) (E : XK), Room k A → Env0 P w K mg base A outer s H → BindsTo s fd args (ps.zip us) → Vals vs us → sp vs H Q E →
    codeAny (model P w) A (.call (.ref f) args) (CR CX outer P w H s Q E) s
theorem FnOk.mono {P : Program} {w : World} {K : PySem.W.Frag} {mg : Str → Option Value} {base : Heap} {CX : CXT} {j k : Nat} {f : Addr} {fd : FuncData} {ps : List Str} {sp : Sp} (F : FnOk P w K mg base CX j f fd ps sp) (h : j ≤ k) :
    FnOk P w K mg base CX k f fd ps sp := ⟨F.len, fun A outer s H args us vs Q E hr => F.run A outer s H args us vs Q E (hr.mono h)⟩
/-- a weaker promise -/
theorem FnOk.imp {P : Program} {w : World} {K : PySem.W.Frag} {mg : Str → Option Value} {base : Heap} {CX : CXT} {k : Nat} {f : Addr} {fd : FuncData} {ps : List Str} {sp sp' : Sp} (F : FnOk P w K mg base CX k f fd ps sp)
    (h : ∀ vs H Q E, sp' vs H Q E → sp vs H Q E) : FnOk P w K mg base CX k f fd ps sp' :=
  ⟨fun vs H Q E q => F.len vs H Q E (h _ _ _ _ q), fun A outer s H args us vs Q E hr he hb hv hs => F.run A outer s H args us vs Q E hr he hb hv (h _ _ _ _ hs)⟩

theorem Env0.make {P : Program} {w : World} {K : PySem.W.Frag} {mg : Str → Option Value} {base : Heap} {A : Around} {outer : List Env} {s : Shared} {H : Hp} (e : Env0 P w K mg base A outer s H) (C : Addr) (us : List Value) (kw : List (Str × Value)) :
    Env0 P w K mg base (A.under (.builtin "type.__call__" ⟨.ref C :: us, kw⟩)) outer s H := ⟨by first | exact e.frames | (simpa [Around.under, Code.envs, Code.isFrame, pushEnvs] using e.frames), e.mod, e.bs, e.bsz, e.funs, e.frf, e.hok, e.bare⟩
theorem Env0.in1 {P : Program} {w : World} {K : PySem.W.Frag} {mg : Str → Option Value} {base : Heap} {A : Around} {outer : List Env} {s : Shared} {H : Hp} (e : Env0 P w K mg base A outer s H) :
    Env0 P w K mg base A.in1 outer s H := ⟨e.frames, e.mod, e.bs, e.bsz, e.funs, e.frf, e.hok, e.bare⟩

section
variable {X : Cx} {pins : List (Addr × Obj)} {σ : St} {H : Hp} {s s' : Shared}
/-- from a body: what a callee wants -/
theorem Inv.env0 (I : Inv X pins σ H s) : Env0 X.prog X.w X.K X.mg X.base X.A X.stack s H :=
  ⟨I.ok.frames, I.ok.mod, I.bs, Nat.le_trans I.ok.bsz I.sz, I.stack, I.stkFree, I.hok, I.bare⟩
/-- behind a call -/
theorem Inv.after {Q : VK} {u : Value} (I : Inv X pins σ H s) (h : CE X.stack X.prog X.w H s Q u s') : EP X pins σ Q u s' := by
  obtain ⟨v, H', os, bare, un, hok, r, q⟩ := h
  obtain ⟨hh, g, d, t, os'⟩ := s'
  obtain rfl : os' = s.os := os
  exact ⟨v, H', I.call (h' := hh) (g' := g) (d' := d) (t' := t) (ch := []) un hok bare (fun b z => absurd z (by simp)), r, q⟩
end

/-! ### calls -/
/-- f(..): the written arguments, then the defaults dvs; E: what is wanted of an exception -/
def tCall (sp : Sp) (dvs : List V) (E : XK) (t : TA) : TE := fun σ H Q => t σ H fun vs H1 => sp (vs ++ dvs) H1 Q E
/-- o.m(..) of an instance of the class at C -/
def tMeth (C : Addr) (m : Str) (sp : Sp) (dvs : List V) (E : XK) (ta : TE) (t : TA) : TE := fun σ H Q => ta σ H fun x H1 => ∃ a dx fs, x = .ref a ∧ H1 a = some (.ins C dx fs) ∧ fs.lookup m = none ∧
  t σ H1 fun vs H2 => sp (x :: (vs ++ dvs)) H2 Q E
/-- C(..): a new instance and its dict, then __init__ -/
def tMake (C : Addr) (sp : Sp) (dvs : List V) (E : XK) (t : TA) : TE := fun σ H Q => t σ H fun vs H1 => ∀ x dx, H1 x = none → H1 dx = none → dx ≠ x →
  sp (.ref x :: (vs ++ dvs)) (upd (upd H1 dx (.own x)) x (.ins C dx [])) (fun v H2 => v = .non ∧ Q (.ref x) H2) E

/-- how the parameters are bound: us the positional arguments, kw the keywords' values by name, ds the defaults that fill up -/
def Binds (K : PySem.W.Frag) (fd : FuncData) (ps : List Str) (ds : List Value) : Prop :=
  ∀ (s : Shared) (us : List Value), K.In s.heap → (us ++ ds).length = ps.length → BindsTo s fd ⟨us, []⟩ (ps.zip (us ++ ds))
/-- every parameter is given -/
theorem Binds.all {K : PySem.W.Frag} {fd : FuncData} {ps : List Str} (h : ∀ us : List Value, us.length = ps.length → bindArgs fd ⟨us, []⟩ = pure (ps.zip us)) : Binds K fd ps [] := fun s us _ hl => by
  rw [List.append_nil] at hl ⊢
  exact .of_eq (h us hl)

/-- an exception of a callee reaches what this body wants of exceptions -/
def Passes (CX : CXT) (X : Cx) (E : XK) : Prop := ∀ (pins : List (Addr × Obj)) (σ : St) (H : Hp) (s : Shared) (e : Value) (s' : Shared), Inv X pins σ H s → CX X.stack H s E e s' → X.xe e s'

section
variable {X : Cx} {CX : CXT} {k : Nat} {f C : Addr} {fd : FuncData} {ps : List Str} {sp : Sp} {dvs : List V} {ds : List Value} {E : XK} {x m : Str} {p pos apos : Pos} {e o : Expr} {es : List Expr} {ta : TE} {t : TA}

/-- the callee runs -/
theorem run_fn {pins : List (Addr × Obj)} {σ : St} {H : Hp} {s : Shared} {Q : VK} {us : List Value} {vs : List V} (F : FnOk X.prog X.w X.K X.mg X.base CX k f fd ps sp) (hr : Room k X.A) (hb : Binds X.K fd ps ds) (hd : Vals dvs ds) (hx : Passes CX X E)
    (I : Inv X pins σ H s) (r : Vals vs us) (h : sp (vs ++ dvs) H Q E) : wpAny (model X.prog X.w) X.A (call (.ref f) us) (EP X pins σ Q) X.xe s := by
  have r2 : Vals (vs ++ dvs) (us ++ ds) := r.append hd
  have hl : (us ++ ds).length = ps.length := by rw [← r2.length]; exact F.len _ _ _ _ h
  refine wpAny_call (codeAny_mono (F.run X.A X.stack s H ⟨us, []⟩ (us ++ ds) (vs ++ dvs) Q E hr I.env0 (hb s us I.kIn hl) r2 h) fun r s' hq => ?_)
  cases r with
  | error e => exact hx pins σ H s e s' I hq
  | ok fl =>
    cases fl with
    | ret u => exact I.after hq
    | next => exact False.elim hq
    | brk => exact False.elim hq
    | cont => exact False.elim hq

theorem pe_call (F : FnOk X.prog X.w X.K X.mg X.base CX k f fd ps sp) (hr : Room k X.A) (hg : Gl X x) (hm : X.mg x = some (.ref f)) (hk : PySem.W.keepIn X.K (.ref f) = true) (hb : Binds X.K fd ps ds) (hd : Vals dvs ds) (hx : Passes CX X E)
    (ha : PA X (e :: es) t) (hdb : (x == ("__debug__" : Str)) = false := by decide) (he : starEach (e :: es) X.env = (false, eval e X.env) :: starEach es X.env := by rfl) (hpl : (backTo pos (starEach es X.env)).any (·.1) = false := by rfl) :
    PE X (.Call (.Name x p) (e :: es) [] pos) (tCall sp dvs E t) := by
  intro pins s σ H Q I h
  refine wpAny_Call_Name_kw (ld_glob I hg hm ?_ hdb)
  refine PySem.W.callWith_K (h₀ := X.base) I.ok.mod.kin hk (thn (ha pos pins s σ H _ I h) fun us s1 ⟨vs, H1, I1, r, q⟩ => ⟨I1.kIn, ?_⟩) he hpl
  exact run_fn F hr hb hd hx I1 r q


/-- what a class must have to be made -/
structure Mk (K : PySem.W.Frag) (C f : Addr) : Prop where
  makes : PySem.W.makesIn K C = true
  init : PySem.W.findIn K (.ref C) "__init__" = some (some (.ref f))
  fn : PySem.W.isFn K (.ref f) = true
  kp : PySem.W.keepIn K (.ref C) = true

end

/-! ### keywords -/
/-- the values of the keywords, from the left -/
def PK (X : Cx) (kws : List Keyword) (t : TA) : Prop :=
  ∀ (pos : Pos) (pins : List (Addr × Obj)) (s : Shared) (σ : St) (H : Hp) (Q : List V → Hp → Prop), Inv X pins σ H s → t σ H Q → wpAny (model X.prog X.w) X.A (evalAll ((backToKw pos (keywordEach kws X.env)).map (·.2))) (AP X pins σ Q) X.xe s
section
variable {X : Cx} {CX : CXT} {k : Nat} {f C : Addr} {fd : FuncData} {ps ks : List Str} {sp : Sp} {E : XK} {x m : Str} {p pos apos kpos : Pos} {e o : Expr} {es : List Expr} {kws : List Keyword} {te ta : TE} {t tk : TA} {nm : Option Str}

/-- how a call with keywords binds: g puts the positional values us and the keywords' values ws (names ks) in the parameters' order, defaults among them -/
structure KBinds (K : PySem.W.Frag) (fd : FuncData) (ps ks : List Str) (g : List Value → List Value → List Value) (gV : List V → List V → List V) : Prop where
  to : ∀ (s : Shared) (us ws : List Value), K.In s.heap → (g us ws).length = ps.length → BindsTo s fd ⟨us, ks.zip ws⟩ (ps.zip (g us ws))
  rel : ∀ {vs : List V} {us : List Value} {zs : List V} {ws : List Value}, Vals vs us → Vals zs ws → Vals (gV vs zs) (g us ws)
def tCallK (sp : Sp) (gV : List V → List V → List V) (E : XK) (t tk : TA) : TE := fun σ H Q => t σ H fun vs H1 => tk σ H1 fun zs H2 => sp (gV vs zs) H2 Q E
variable {g : List Value → List Value → List Value} {gV : List V → List V → List V}
end

/-! ### a def's body keeps its promise -/
/-- names: the parameters first -/
structure FnScope (N P : List Str) (sc : Scope) : Prop where
  kind : sc.kind = .function
  co : sc.isCoroutine = false
  gen : sc.isGenerator = false
  nd : N.Nodup
  pre : N.take P.length = P
  par : ∀ x ∈ P, sc.names.lookup x = some .local ∨ sc.names.lookup x = some .cell
  nofree : ∀ y ∈ sc.names, y.2 ≠ .free

theorem bindL_out {kindOf : Str → Option NameKind} {x : Str} : ∀ {binds : List (Str × Value)} {m : Str → Option Value}, (∀ v, (x, v) ∉ binds) → bindL kindOf binds m x = m x
  | [], _, _ => rfl
  | (n, v) :: r, m, h => by
    unfold bindL
    rw [bindL_out fun w hw => h w (List.mem_cons_of_mem _ hw)]
    split
    · have : x ≠ n := by rintro rfl; exact h v List.mem_cons_self
      simp [this]
    · rfl
theorem bindC_out {kindOf : Str → Option NameKind} {x : Str} : ∀ {binds : List (Str × Value)} {m : Str → Option Value}, (∀ v, (x, v) ∉ binds) → bindC kindOf binds m x = m x
  | [], _, _ => rfl
  | (n, v) :: r, m, h => by
    unfold bindC
    rw [bindC_out fun w hw => h w (List.mem_cons_of_mem _ hw)]
    split
    · rfl
    · have : x ≠ n := by rintro rfl; exact h v List.mem_cons_self
      simp [this]
theorem bindL_get {kindOf : Str → Option NameKind} {x : Str} {v : Value} : ∀ {P : List Str} {vs : List Value} {i : Nat} {m : Str → Option Value}, P.Nodup → P[i]? = some x → vs[i]? = some v → kindOf x = some .local →
    bindL kindOf (P.zip vs) m x = some v
  | [], _, _, _, _, h, _, _ => by simp at h
  | _ :: _, [], _, _, _, _, h, _ => by simp at h
  | p :: P, w :: vs, 0, m, nd, h1, h2, hk => by
    simp at h1 h2; subst h1; subst h2
    show bindL kindOf ((p, w) :: P.zip vs) m p = _
    unfold bindL
    rw [bindL_out fun v hv => (List.nodup_cons.mp nd).1 (List.of_mem_zip hv).1, if_pos hk]
    simp
  | p :: P, w :: vs, i + 1, m, nd, h1, h2, hk => by
    show bindL kindOf ((p, w) :: P.zip vs) m x = _
    unfold bindL
    exact bindL_get (i := i) (List.nodup_cons.mp nd).2 (by simpa using h1) (by simpa using h2) hk
theorem bindC_get {kindOf : Str → Option NameKind} {x : Str} {v : Value} : ∀ {P : List Str} {vs : List Value} {i : Nat} {m : Str → Option Value}, P.Nodup → P[i]? = some x → vs[i]? = some v → kindOf x ≠ some .local →
    bindC kindOf (P.zip vs) m x = some v
  | [], _, _, _, _, h, _, _ => by simp at h
  | _ :: _, [], _, _, _, _, h, _ => by simp at h
  | p :: P, w :: vs, 0, m, nd, h1, h2, hk => by
    simp at h1 h2; subst h1; subst h2
    show bindC kindOf ((p, w) :: P.zip vs) m p = _
    unfold bindC
    rw [bindC_out fun v hv => (List.nodup_cons.mp nd).1 (List.of_mem_zip hv).1, if_neg hk]
    simp
  | p :: P, w :: vs, i + 1, m, nd, h1, h2, hk => by
    show bindC kindOf ((p, w) :: P.zip vs) m x = _
    unfold bindC
    exact bindC_get (i := i) (List.nodup_cons.mp nd).2 (by simpa using h1) (by simpa using h2) hk

/-- the names' values at the entry -/
def start (N : List Str) (vs : List V) : St := vs.map some ++ List.replicate (N.length - vs.length) none

/-- the context of a def's body, at its entry; an exception leaves the frame, then lies as CX says -/
def cxOf (CX : CXT) (P : Program) (w : World) (K : PySem.W.Frag) (mg : Str → Option Value) (base : Heap) (N : List Str) (qual : Str) (scope : Scope) (f : Addr) (cd : Value) (A : Around) (outer : List Env) (s : Shared) (H : Hp) (E : XK) : Cx where
  prog := P
  w := w
  K := K
  mg := mg
  base := base
  A := A.deeper (envOfC qual scope s.heap.objs.size f cd)
  N := N
  s₀ := s
  H₀ := H
  env := envOfC qual scope s.heap.objs.size f cd
  outer := outer
  stack := envOfC qual scope s.heap.objs.size f cd :: outer
  ex := []
  calm := true
  fn := fun _ => true
  pn := []
  xe := fun e s' => wpAny (model P w) (A.deeper (envOfC qual scope s.heap.objs.size f cd)) (leaving (envOfC qual scope s.heap.objs.size f cd) e) (fun _ s'' => CX outer H s E e s'') (fun e' s'' => CX outer H s E e' s'') s'

theorem cell_has {sc : Scope} {n : Nat} {x : Str} (h : sc.names.lookup x = some .cell) : ∃ c, (cellsFrom n sc.names []).lookup x = some c := by
  have q := PySem.W.cellsFrom_some sc.names n [] (.inl h)
  exact Option.isSome_iff_exists.mp q

theorem inv_start {CX : CXT} {P : Program} {w : World} {K : PySem.W.Frag} {mg : Str → Option Value} {base : Heap} {N ps : List Str} {qual : Str} {scope : Scope} {f : Addr} {cd : Value} {A : Around} {outer : List Env} {s s1 : Shared} {H : Hp} {E : XK} {us : List Value} {vs : List V}
    (S : FnScope N ps scope) (hd : A.handled = none) (e0 : Env0 P w K mg base A outer s H) (hl : vs.length = ps.length) (r : Vals vs us)
    (x : InCallC s s.heap.objs.size (bindL (envOfC qual scope s.heap.objs.size f cd).kindOf (ps.zip us) fun _ => none) (cellsFrom (s.heap.objs.size + 1) scope.names []) (bindC (envOfC qual scope s.heap.objs.size f cd).kindOf (ps.zip us) fun _ => none) s1) :
    Inv (cxOf CX P w K mg base N qual scope f cd A outer s H E) [] (start N vs) H s1 := by
  have hpl : ps.length ≤ N.length := by have := congrArg List.length S.pre; rw [List.length_take] at this; omega
  obtain ⟨h1, tk, rfl, hk⟩ := x.done
  have noA : ∀ b : Addr, b ∉ (cxOf CX P w K mg base N qual scope f cd A outer s H E).ex := fun b z => absurd (show b ∈ ([] : List Addr) from z) (by simp)
  refine ⟨⟨e0.mod, S.kind, rfl, rfl, Nat.le_refl _, fun y z c h1 h2 => ?_, fun y hy => ?_, fun y c _ h => ?_, fun _ => hd, Around.frames_deeper e0.frames, .inr ⟨rfl, rfl⟩, fun b z => absurd z (noA b), e0.bs, e0.bsz, fun b _ _ => noA b, fun b z => absurd z (noA b), e0.funs, e0.frf⟩,
    rfl, e0.bare, Un.kept hk, ⟨_, x.toInCall.ns, fun i y v h1 h2 h3 => ?_⟩, fun y c h => ⟨_, x.cell y c h⟩, e0.hok.fresh (Nat.le_refl _), fun y c h => ?_, fun p hp => absurd (show p ∈ ([] : List (Addr × Obj)) from hp) (by simp), e0.hok.kept hk, ?_⟩
  · exact name_of_addr x.apart (PySem.mem_of_lookup h1) (PySem.mem_of_lookup h2)
  · have hy : scope.names.lookup y = some .cell ∨ scope.names.lookup y = some .free := hy
    rcases hy with hy | hy
    · exact cell_has hy
    · exact absurd rfl (S.nofree _ (PySem.mem_of_lookup hy))
  · exact Nat.le_of_lt (x.above y c (PySem.mem_of_lookup h))
  · have hi : i < vs.length := by
      unfold start at h2
      by_cases hi : i < vs.length
      · exact hi
      · rw [List.getElem?_append_right (by simpa using hi)] at h2
        rw [List.getElem?_replicate] at h2
        split at h2 <;> cases h2
    have ha : vs[i]? = some v := by
      unfold start at h2
      rw [List.getElem?_append_left (by simpa using hi), List.getElem?_map] at h2
      cases e : vs[i]? with
      | none => rw [e] at h2; cases h2
      | some a => rw [e] at h2; cases h2; rfl
    obtain ⟨u, hu, rv⟩ := r.get ha
    have hp : ps[i]? = some y := by
      rw [← S.pre, List.getElem?_take_of_lt (by omega)]; exact h1
    have ndP : ps.Nodup := by rw [← S.pre]; exact S.nd.sublist (List.take_sublist _ _)
    refine ⟨u, rv, ?_⟩
    rcases S.par y (List.mem_of_getElem? hp) with k | k
    · exact .inl ⟨k, bindL_get ndP hp hu k⟩
    · obtain ⟨c, e⟩ := cell_has (n := s.heap.objs.size + 1) k
      refine .inr ⟨.inl k, c, e, ?_⟩
      have q := x.cell y c e
      rw [bindC_get ndP hp hu (by show scope.names.lookup y ≠ _; rw [k]; decide)] at q
      exact q
  · exact e0.hok.fresh (Nat.le_of_lt (x.above y c (PySem.mem_of_lookup h)))
  · unfold start
    show _ = N.length
    rw [List.length_append, List.length_map, List.length_replicate]
    omega

/-- THE RULE: a def (or a method) of the text, by its body. The body's reading t is chosen for each entry; it is run at the parameters' values -/
theorem fn_of {CX : CXT} {P : Program} {w : World} {K : PySem.W.Frag} {mg : Str → Option Value} {base : Heap} {k : Nat} {f : Addr} {name qual : Str} {params : Arguments} {body : List Stmt} {scope : Scope} {dV kV doc pm cdv ct oc : Value} {an od : Option Addr}
    {osl : Array (Option Value)} {N ps : List Str} {sp : Sp} (lk : K.lookup f = some ⟨oc, od, .func (PySem.W.fnOf name qual params body scope dV kV doc pm an cdv ct), osl⟩) (hcd : PySem.W.codeIn K cdv qual = true) (S : FnScope N ps scope)
    (len : ∀ vs H Q E, sp vs H Q E → vs.length = ps.length)
    (hbody : ∀ (A : Around) (outer : List Env) (s : Shared) (H : Hp) (vs : List V) (Q : VK) (E : XK), Room k (A.deeper (envOfC qual scope s.heap.objs.size f cdv)) → sp vs H Q E →
      ∃ t, PSs (cxOf CX P w K mg base N qual scope f cdv A outer s H E) body t ∧ t { nx := fun _ H' => Q .non H', rt := Q } (start N vs) H) :
    FnOk P w K mg base CX (k + 1) f (PySem.W.fnOf name qual params body scope dV kV doc pm an cdv ct) ps sp := by
  refine ⟨len, fun A outer s H args us vs Q E hr e0 hb r hsp => ?_⟩
  have hl := len _ _ _ _ hsp
  have KX : K.In s.heap := e0.mod.kin.keeps fun b o e => (e0.bs b o e).1
  have lim : s.heap.NoLimit := e0.mod.nolimit.keeps fun b o e => (e0.bs b o e).1
  have hkind : ∀ y ∈ ps.zip us, scope.names.lookup y.1 = some .local ∨ (scope.names.lookup y.1 = some .cell ∧ ((cellsFrom (s.heap.objs.size + 1) scope.names []).lookup y.1).isSome = true) := fun ⟨n, v⟩ hy => by
    rcases S.par n (List.of_mem_zip hy).1 with q | q
    · exact .inl q
    · exact .inr ⟨q, PySem.W.cellsFrom_some _ _ _ (.inl q)⟩
  refine codeAny_call_function hr.depth (KX _ _ lk) rfl S.co S.gen rfl (PySem.W.codeRec_of KX hcd) (hb _ _ _ _ ?_)
  refine wpAny_newFunctionEnv_cells S.kind hkind fun env he s1 x => ?_
  subst he
  refine ⟨lim.keeps x.toInCall.keep, codeAny_func ?_⟩
  obtain ⟨t, ht, hq⟩ := hbody A outer s H vs Q E (hr.deeper _) hsp
  have I : Inv (cxOf CX P w K mg base N qual scope f cdv A outer s H E) [] (start N vs) H s1 := inv_start S hr.hd e0 hl r x
  refine wpAny_mono (ht [] s1 (start N vs) H _ I hq) (fun fl s' hs => ?_) fun e s' hs => hs
  have fin : ∀ {σ' : St} {H' : Hp} {v : V} {u : Value}, Inv (cxOf CX P w K mg base N qual scope f cdv A outer s H E) [] σ' H' s' → RelV v u → Q v H' → CE outer P w H s Q u s' :=
    fun {σ' H' v u} J rv q => ⟨v, H', J.os, J.bare, J.base, J.hok, rv, q⟩
  cases fl with
  | ret u =>
    obtain ⟨v, σ', H', J, rv, q⟩ := hs
    exact fin J rv q
  | next =>
    obtain ⟨σ', H', J, q⟩ := hs
    exact fin (v := V.non) (u := Value.none) J rfl q
  | brk =>
    obtain ⟨_, _, _, q⟩ := hs
    exact False.elim q
  | cont =>
    obtain ⟨_, _, _, q⟩ := hs
    exact False.elim q
end L2

namespace L2
open PySem PySem.Spec PyProof.Rows
section
variable {X : Cx} {x : Str} {p pos : Pos} {e : Expr} {es : List Expr} {t : TA} {id T : String} {r : List V → Hp → VK → Prop}

def tCB (r : List V → Hp → VK → Prop) (t : TA) : TE := fun σ H Q => t σ H fun vs H1 => r vs H1 Q
/-- f(e, ..), f a built-in function -/
theorem pe_callB (hc : CallR X (.builtin id) r) (hg : Gl X x) (hm : X.mg x = none) (hv : bootBuiltins x = some (.builtin id)) (ha : PA X (e :: es) t) (hn : x ≠ "__name__" := by decide) (hdb : (x == ("__debug__" : Str)) = false := by decide)
    (he : starEach (e :: es) X.env = (false, eval e X.env) :: starEach es X.env := by rfl) (hpl : (backTo pos (starEach es X.env)).any (·.1) = false := by rfl) : PE X (.Call (.Name x p) (e :: es) [] pos) (tCB r t) := by
  intro pins s σ H Q I h
  refine wpAny_Call_Name_kw (ld_blt I hg hm hv ?_ hn hdb)
  exact PyProof.Rows.callWith_builtin1 (thn (ha pos pins s σ H _ I h) fun us s1 ⟨vs, H1, I1, r1, q1⟩ => hc pins s1 σ H1 vs us Q I1 r1 q1) he hpl
/-- T(e, ..), T a built-in type -/
theorem pe_callTy (hc : CallR X (.type T) r) (hg : Gl X x) (hm : X.mg x = none) (hv : bootBuiltins x = some (.type T)) (ha : PA X (e :: es) t) (hn : x ≠ "__name__" := by decide) (hdb : (x == ("__debug__" : Str)) = false := by decide)
    (he : starEach (e :: es) X.env = (false, eval e X.env) :: starEach es X.env := by rfl) (hpl : (backTo pos (starEach es X.env)).any (·.1) = false := by rfl) : PE X (.Call (.Name x p) (e :: es) [] pos) (tCB r t) := by
  intro pins s σ H Q I h
  refine wpAny_Call_Name_kw (ld_blt I hg hm hv ?_ hn hdb)
  exact PyProof.Rows.callWith_type1 (thn (ha pos pins s σ H _ I h) fun us s1 ⟨vs, H1, I1, r1, q1⟩ => hc pins s1 σ H1 vs us Q I1 r1 q1) he hpl
end
end L2

namespace HT
open PySem PyProof.Rows

/-- t < u of tuples of ints -/
def lexLt : List Int → List Int → Bool
  | [], [] => false
  | [], _ :: _ => true
  | _ :: _, [] => false
  | x :: xs, y :: ys => if x = y then lexLt xs ys else decide (x < y)


section
open PySem.SeqAt
open PySem.AutoSeq1 (wpAny_loadPart')
open PySem.MeetsSeq PySem.MeetsSeq2 PySem.MeetsSeq3

end

section
variable {prog : Program} {w : World} {A : Around} {E : Value → Shared → Prop} {s : Shared}



/-! ### t[a:b], not the whole -/
/-- a slice's bound as a place among n (d where it is left out) -/
def sIx (n d : Nat) : Option Int → Nat
  | none => d
  | some v => if v < 0 then (v + (n : Int)).toNat else min v.toNat n
theorem sIx_le (n d : Nat) (hd : d ≤ n) (o : Option Int) : sIx n d o ≤ n := by
  cases o with
  | none => exact hd
  | some v =>
    show (if v < 0 then (v + (n : Int)).toNat else min v.toNat n) ≤ n
    by_cases hv : v < 0
    · rw [if_pos hv]; omega
    · rw [if_neg hv]; exact Nat.min_le_right _ _

end
end HT

namespace L2
open PySem PySem.Spec PyProof.Rows

/-! ### the parts of a slice -/
abbrev TO := St → Hp → (Option Int → Hp → Prop) → Prop
/-- a slice's part (left out, or an int) -/
def PO (X : Cx) (e : Option Expr) (t : TO) : Prop :=
  ∀ (pins : List (Addr × Obj)) (s : Shared) (σ : St) (H : Hp) (Q : Option Int → Hp → Prop), Inv X pins σ H s → t σ H Q →
    wpAny (model X.prog X.w) X.A (evalPart e X.env) (fun u s' => ∃ o H', Inv X pins σ H' s' ∧ IsPart u o ∧ Q o H') X.xe s
def tNoPart : TO := fun _ H Q => Q none H
def tPart (t : TE) : TO := fun σ H Q => t σ H fun x H1 => ∃ i, x = .int i ∧ Q (some i) H1


section
variable {X : Cx} {e : Expr} {te : TE} {lo hi : Option Expr} {tl th : TO} {pos p2 : Pos}

theorem po_none : PO X none tNoPart := by
  intro pins s σ H Q I h
  rw [evalPart_none]
  exact wpAny_pure ⟨none, H, I, .none, h⟩
theorem po_some (h : PE X e te) : PO X (some e) (tPart te) := by
  intro pins s σ H Q I hw
  rw [evalPart_some]
  refine thn (h pins s σ H _ I hw) fun u s1 ⟨x, H1, I1, r1, q1⟩ => ?_
  obtain ⟨i, rfl, q⟩ := q1
  obtain ⟨t, rfl⟩ := r1
  exact ⟨some i, H1, I1, .int i t, q⟩

/-- what a slice of a value is, by values: the slice object stands at sl -/
def SlR (X : Cx) (r : V → Option Int → Option Int → Hp → VK → Prop) : Prop :=
  ∀ (pins : List (Addr × Obj)) (s : Shared) (σ : St) (H : Hp) (x : V) (v vl vu : Value) (lo hi : Option Int) (sl : Addr) (Q : VK), Inv X pins σ H s → RelV x v → s.heap.IsSliceOf sl vl vu .none → IsPart vl lo → IsPart vu hi → r x lo hi H Q →
    ∃ T id, typeLookup (.type T) "__getitem__" = pure (some (.builtin id)) ∧ s.TypeIs v T ∧ wpAny (model X.prog X.w) X.A (getItem v (.ref sl)) (EP X pins σ Q) X.xe s
theorem SlR.or {r r' : V → Option Int → Option Int → Hp → VK → Prop} (h : SlR X r) (h' : SlR X r') : SlR X (fun x lo hi H Q => r x lo hi H Q ∨ r' x lo hi H Q) := by
  intro pins s σ H x v vl vu lo hi sl Q I rx hs pl pu q
  rcases q with q | q
  · exact h pins s σ H x v vl vu lo hi sl Q I rx hs pl pu q
  · exact h' pins s σ H x v vl vu lo hi sl Q I rx hs pl pu q
def tSl (r : V → Option Int → Option Int → Hp → VK → Prop) (te : TE) (tl th : TO) : TE := fun σ H Q => te σ H fun x H1 => tl σ H1 fun l H2 => th σ H2 fun u H3 => r x l u H3 Q
/-- a[lo:hi], any a -/
theorem pe_slice {r : V → Option Int → Option Int → Hp → VK → Prop} (hr : SlR X r) (he : PE X e te) (hl : PO X lo tl) (hu : PO X hi th) : PE X (.Subscript e (.Slice lo hi none p2) pos) (tSl r te tl th) := by
  intro pins s σ H Q I h
  refine Subscript_ (thn (he pins s σ H _ I h) fun v s1 ⟨x, H1, I1, r1, q1⟩ => ?_)
  refine wpAny_Slice (thn (hl pins s1 σ H1 _ I1 q1) fun vl s2 ⟨l, H2, I2, pl, q2⟩ => thn (hu pins s2 σ H2 _ I2 q2) fun vu s3 ⟨u, H3, I3, pu, q3⟩ => ?_)
  rw [evalPart_none]
  refine wpAny_pure ?_
  have I4 : Inv X pins σ H3 { s3 with heap := s3.heap.push { cls := .type "slice", data := .fields #[vl, vu, .none] } } := I3.kept (t' := s3.toks) fun b ob q => Heap.get?_push_of_some _ q
  obtain ⟨T, id, hT, ht, hg⟩ := hr pins { s3 with heap := s3.heap.push { cls := .type "slice", data := .fields #[vl, vu, .none] } } σ H3 x v vl vu l u s3.heap.objs.size Q I4 r1 (Heap.IsSliceOf.new ..) pl pu q3
  show wpAny (model X.prog X.w) X.A (subscriptTail e (.Slice lo hi none p2) v (.ref s3.heap.objs.size)) (EP X pins σ Q) X.xe { s3 with heap := s3.heap.push { cls := .type "slice", data := .fields #[vl, vu, .none] } }
  exact tail_any (ops := [.ref s3.heap.objs.size, v]) ht hT hg (by with_unfolding_all rfl)

/-- the items of xs[lo:hi] -/
def cutV (xs : List V) (lo hi : Option Int) : List V := (xs.drop (HT.sIx xs.length 0 lo)).take (HT.sIx xs.length xs.length hi - HT.sIx xs.length 0 lo)
/-- t[lo:hi], not the whole of it (the whole would be t itself) -/
def rSlT (K : PySem.W.Frag) : V → Option Int → Option Int → Hp → VK → Prop := fun x lo hi H Q => ∃ a xs, x = .ref a ∧ SqT K H a xs ∧
  ¬ (HT.sIx xs.length 0 lo = 0 ∧ HT.sIx xs.length xs.length hi = xs.length) ∧ ∀ p, H p = none → Q (.ref p) (upd H p (.tup (cutV xs lo hi)))

/-! ### t < u, t + u -/
def rLtT (K : PySem.W.Frag) : R2 := fun x y H Q => ∃ a b ns ms, x = .ref a ∧ y = .ref b ∧ SqT K H a (ns.map V.int) ∧ SqT K H b (ms.map V.int) ∧ Q (.bl (HT.lexLt ns ms)) H
/-- t + u, t not empty: u empty gives t itself -/
def rCatT (K : PySem.W.Frag) : R2 := fun x y H Q => ∃ a b xs ys, x = .ref a ∧ y = .ref b ∧ SqT K H a xs ∧ SqT K H b ys ∧ xs ≠ [] ∧ xs.length + ys.length ≤ sizeLine ∧
  (ys = [] → Q (.ref a) H) ∧ (ys ≠ [] → ∀ p, H p = none → Q (.ref p) (upd H p (.tup (xs ++ ys))))
end
end L2

namespace L2
open PySem PySem.Spec PyProof.Rows

/-! ### places -/
/-- the place that an index of any sign means -/
def ixN (n : Nat) (i : Int) : Option Nat := if 0 ≤ i then (if i < n then some i.toNat else none) else if -(n : Int) ≤ i then some (i + n).toNat else none
def atI {α : Type} (xs : List α) (i : Int) : Option α := (ixN xs.length i).bind fun j => xs[j]?
theorem ixN_seq {n : Nat} {i : Int} {j : Nat} (h : ixN n i = some j) : seqIndex? i n = some j ∧ j < n ∧ -(n : Int) ≤ i ∧ i < n := by
  unfold ixN at h
  by_cases h0 : 0 ≤ i
  · rw [if_pos h0] at h
    by_cases h1 : i < n
    · rw [if_pos h1] at h
      have e : i.toNat = j := Option.some.inj h
      exact ⟨by rw [seqIndex_of h0 h1, e], by omega, by omega, h1⟩
    · rw [if_neg h1] at h; cases h
  · rw [if_neg h0] at h
    by_cases h1 : -(n : Int) ≤ i
    · rw [if_pos h1] at h
      have e : (i + n).toNat = j := Option.some.inj h
      exact ⟨by rw [seqIndex_neg (by omega) h1, e], by omega, h1, by omega⟩
    · rw [if_neg h1] at h; cases h
theorem atI_get {α : Type} {xs : List α} {i : Int} {v : α} (h : atI xs i = some v) : ∃ j, seqIndex? i xs.length = some j ∧ xs[j]? = some v ∧ j < xs.length ∧ -(xs.length : Int) ≤ i ∧ i < xs.length := by
  unfold atI at h
  cases e : ixN xs.length i with
  | none => rw [e] at h; cases h
  | some j =>
    rw [e] at h
    obtain ⟨h1, h2, h3, h4⟩ := ixN_seq e
    exact ⟨j, h1, h, h2, h3, h4⟩
theorem atI_nat {α : Type} {xs : List α} {j : Nat} {v : α} (h : xs[j]? = some v) : atI xs (j : Int) = some v := by
  have hj : j < xs.length := (List.getElem?_eq_some_iff.mp h).1
  have e : ixN xs.length (j : Int) = some j := by
    unfold ixN
    rw [if_pos (by omega), if_pos (by omega)]; simp
  unfold atI; rw [e]; exact h

/-! ### what may be subscripted -/
/-- what stands as an index of a plain subscript -/
def PlainIx (b : Expr) : Prop := ∀ o i, subscripted b false o i = operate [o, i] (getItem o i)
/-- a subscript by values -/
def IxR (X : Cx) (r : R2) : Prop :=
  ∀ (value slice : Expr) (pins : List (Addr × Obj)) (s : Shared) (σ : St) (H : Hp) (x y : V) (v u : Value) (Q : VK), Inv X pins σ H s → RelV x v → RelV y u → r x y H Q →
    subscripted slice false v u = operate [v, u] (getItem v u) → wpAny (model X.prog X.w) X.A (subscriptTail value slice v u) (EP X pins σ Q) X.xe s
/-- a call of a builtin's method by values: the receiver, the arguments -/
def MtR (X : Cx) (id : String) (r : V → List V → Hp → VK → Prop) : Prop :=
  ∀ (pins : List (Addr × Obj)) (s : Shared) (σ : St) (H : Hp) (x : V) (xs : List V) (v : Value) (us : List Value) (Q : VK), Inv X pins σ H s → RelV x v → Vals xs us → r x xs H Q →
    wpAny (model X.prog X.w) X.A (call (.builtin id) (v :: us)) (EP X pins σ Q) X.xe s
section
variable {X : Cx} {a b : Expr} {ta tb : TE} {pos : Pos}
theorem IxR.or {r r' : R2} (h : IxR X r) (h' : IxR X r') : IxR X (fun x y H Q => r x y H Q ∨ r' x y H Q) := by
  intro value slice pins s σ H x y v u Q I rx ry q hs
  rcases q with q | q
  · exact h value slice pins s σ H x y v u Q I rx ry q hs
  · exact h' value slice pins s σ H x y v u Q I rx ry q hs
theorem MtR.or {id : String} {r r' : V → List V → Hp → VK → Prop} (h : MtR X id r) (h' : MtR X id r') : MtR X id (fun x xs H Q => r x xs H Q ∨ r' x xs H Q) := by
  intro pins s σ H x xs v us Q I rx rs q
  rcases q with q | q
  · exact h pins s σ H x xs v us Q I rx rs q
  · exact h' pins s σ H x xs v us Q I rx rs q
/-- a[b] -/
theorem pe_ix {r : R2} (hr : IxR X r) (ha : PE X a ta) (hb : PE X b tb) (hs : PlainIx b) : PE X (.Subscript a b pos) (tOp r ta tb) := by
  intro pins s σ H Q I h
  exact Subscript_ (binT ha hb I h fun v u s2 x y H2 I2 rx ry q => hr a b pins s2 σ H2 x y v u Q I2 rx ry q (hs _ _))

def rIxL (K : PySem.W.Frag) : R2 := fun x y H Q => ∃ p xs i v, x = .ref p ∧ y = .int i ∧ SqL K H p xs ∧ atI xs i = some v ∧ Q v H
def rIxT (K : PySem.W.Frag) : R2 := fun x y H Q => ∃ p xs i v, x = .ref p ∧ y = .int i ∧ SqT K H p xs ∧ atI xs i = some v ∧ Q v H
def rIxS : R2 := fun x y H Q => ∃ z i c, x = .str z ∧ y = .int i ∧ z.length ≤ sizeLine ∧ atI z.cps.toList i = some c ∧ Q (.str ⟨#[c]⟩) H
theorem ix_list : IxR X (rIxL X.K) := by
  intro value slice pins s σ H x y v u Q I rx ry h hs
  obtain ⟨p, xs, i, z, rfl, rfl, hq, he, q⟩ := h
  cases rx
  obtain ⟨t, rfl⟩ := ry
  obtain ⟨its, r, pl, hz⟩ := I.list hq
  obtain ⟨j, h1, h2, h3, h4, h5⟩ := atI_get he
  obtain ⟨w, ew, rw'⟩ := r.get h2
  have hl := r.length
  have hn := line63
  have fin : EP X pins σ Q w s := ⟨z, H, I, rw', q⟩
  by_cases h0 : 0 ≤ i
  · have hj : i.toNat = j := by
      rw [seqIndex_of h0 h5] at h1
      exact Option.some.inj h1
    exact item_listR pl.isList h0 (by omega) (by rw [hj]; simpa using ew) fin hs
  · have hj : (i + (its.toArray.size : Int)).toNat = j := by
      rw [seqIndex_neg (by omega) h4] at h1
      rw [List.size_toArray, ← hl]
      exact Option.some.inj h1
    exact subscriptTail_builtinR (x := w) pl.isList.typeIs slot_list_getitem.lookup
      (wpAny_getItem_list_neg (Q := fun r s' => r = w ∧ EP X pins σ Q r s') pl.isList (by omega) (by rw [List.size_toArray] <;> omega) (by omega) (by rw [hj]; simpa using ew) ⟨rfl, fin⟩) hs
theorem ix_str : IxR X rIxS := by
  intro value slice pins s σ H x y v u Q I rx ry h hs
  obtain ⟨z, i, c, rfl, rfl, hz, he, q⟩ := h
  obtain ⟨t, rfl⟩ := rx
  obtain ⟨t', rfl⟩ := ry
  obtain ⟨j, h1, h2, h3, h4, h5⟩ := atI_get he
  have hl : z.cps.toList.length = z.length := by simp [Str.length]
  rw [hl] at h1 h4 h5
  have hn := line63
  exact tail_any (typeIs_str s z t) slot_str_getitem.lookup (getItem_str (c := c) (by
    have e1 : decide (i < -(2 ^ 63 : Int)) = false := decide_eq_false (by omega)
    have e2 : decide (i ≥ 2 ^ 63) = false := decide_eq_false (by omega)
    rw [e1, e2, Bool.or_false]) (by rw [h1]; simpa using h2) ⟨.str ⟨#[c]⟩, H, I.tok _, ⟨_, rfl⟩, q⟩) hs
/-- list, tuple or str -/
def rIx (K : PySem.W.Frag) : R2 := fun x y H Q => rIxL K x y H Q ∨ rIxT K x y H Q ∨ rIxS x y H Q

/-! ### xs[i] = v, any sign -/
theorem Inv.lst {pins : List (Addr × Obj)} {σ : St} {H : Hp} {s : Shared} {p : Addr} {xs : List V} (I : Inv X pins σ H s) (h : H p = some (.lst xs)) :
    ∃ (its : List Value) (n : Nat), Vals xs its ∧ s.heap.get? p = some { cls := .type "list", data := .seq its.toArray n } ∧ xs.length ≤ sizeLine := by
  obtain ⟨z, its, n, r, e⟩ := I.hok p _ h
  exact ⟨its, n, r, e, z⟩
def rSetL : V → V → V → Hp → (Hp → Prop) → Prop := fun o i v H Q => ∃ p xs k j, o = .ref p ∧ i = .int k ∧ H p = some (.lst xs) ∧ ixN xs.length k = some j ∧ Q (upd H p (.lst (xs.set j v)))

/-! ### slices -/
/-- xs[lo:hi] of a list: a new list -/
def rSlL (K : PySem.W.Frag) : V → Option Int → Option Int → Hp → VK → Prop := fun x lo hi H Q => ∃ a xs, x = .ref a ∧ SqL K H a xs ∧ ∀ p, H p = none → Q (.ref p) (upd H p (.lst (cutV xs lo hi)))

/-! ### in, not in: flat items -/
def flatV : V → Bool
  | .non => true
  | .bl _ => true
  | .int _ => true
  | .str _ => true
  | _ => false
/-- == of flat values -/
def eqV : V → V → Bool
  | .non, .non => true
  | .bl a, .bl b => a == b
  | .bl a, .int b => (if a then 1 else 0) == b
  | .int a, .bl b => a == (if b then 1 else 0)
  | .int a, .int b => a == b
  | .str a, .str b => a == b
  | _, _ => false
theorem eqAt_V {A : Around} {s : Shared} {y x : V} {u v : Value} (ry : RelV y u) (rx : RelV x v) (fy : flatV y = true) (fx : flatV x = true) : SeqAt.EqAt A s u v (eqV y x) := by
  cases y with
  | non =>
    cases ry
    cases x with
    | non => cases rx; exact SeqAt.EqAt.same _
    | bl b => cases rx; exact SeqAt.EqAt.none_bool b
    | int b => obtain ⟨t, rfl⟩ := rx; exact SeqAt.EqAt.none_int b t
    | str b => obtain ⟨t, rfl⟩ := rx; exact SeqAt.EqAt.none_str b t
    | _ => exact absurd (show false = true from fx) Bool.false_ne_true
  | bl a =>
    cases ry
    cases x with
    | non => cases rx; exact SeqAt.EqAt.bool_none a
    | bl b => cases rx; exact SeqAt.EqAt.bool_bool a b
    | int b => obtain ⟨t, rfl⟩ := rx; exact SeqAt.EqAt.bool_int a b t
    | str b => obtain ⟨t, rfl⟩ := rx; exact SeqAt.EqAt.bool_str a b t
    | _ => exact absurd (show false = true from fx) Bool.false_ne_true
  | int a =>
    obtain ⟨t', rfl⟩ := ry
    cases x with
    | non => cases rx; exact SeqAt.EqAt.int_none a t'
    | bl b => cases rx; exact SeqAt.EqAt.int_bool a t' b
    | int b => obtain ⟨t, rfl⟩ := rx; exact SeqAt.EqAt.int_int a t' b t
    | str b => obtain ⟨t, rfl⟩ := rx; exact SeqAt.EqAt.int_str a t' b t
    | _ => exact absurd (show false = true from fx) Bool.false_ne_true
  | str a =>
    obtain ⟨t', rfl⟩ := ry
    cases x with
    | non => cases rx; exact SeqAt.EqAt.str_none a t'
    | bl b => cases rx; exact SeqAt.EqAt.str_bool a t' b
    | int b => obtain ⟨t, rfl⟩ := rx; exact SeqAt.EqAt.str_int a t' b t
    | str b => obtain ⟨t, rfl⟩ := rx; exact SeqAt.EqAt.str_str a t' b t
    | _ => exact absurd (show false = true from fx) Bool.false_ne_true
  | _ => exact absurd (show false = true from fy) Bool.false_ne_true
/-- the items' answers, read off the values (a value's own answer does not lean on its token) -/
def eqU (x : V) (u : Value) : Bool := match u with
  | .none => eqV .non x
  | .bool b => eqV (.bl b) x
  | .int i _ => eqV (.int i) x
  | .str z _ => eqV (.str z) x
  | _ => false
def inV (x : V) (xs : List V) : Bool := xs.any fun y => eqV y x
/-- x in a list or tuple of flat items -/
def rIn (K : PySem.W.Frag) (neg : Bool) : R2 := fun x y H Q => ∃ p xs, y = .ref p ∧ (SqL K H p xs ∨ SqT K H p xs) ∧ flatV x = true ∧ xs.all flatV = true ∧ Q (.bl (if neg then !inV x xs else inV x xs)) H

/-! ### len, list(x), tuple(x) of any list or tuple that is read -/
theorem CallR.or {f : Value} {r r' : List V → Hp → VK → Prop} (h : CallR X f r) (h' : CallR X f r') : CallR X f (fun xs H Q => r xs H Q ∨ r' xs H Q) := by
  intro pins s σ H xs us Q I rs q
  rcases q with q | q
  · exact h pins s σ H xs us Q I rs q
  · exact h' pins s σ H xs us Q I rs q

/-! ### the call of a builtin's method: o.m(..) -/
/-- the value is of that builtin type -/
def tyV (K : PySem.W.Frag) (T : String) (x : V) (H : Hp) : Prop := match x with
  | .str _ => T = "str"
  | .int _ => T = "int"
  | .ref p => (T = "list" ∧ ∃ xs, SqL K H p xs) ∨ (T = "tuple" ∧ ∃ o, K.lookup p = some o ∧ o.cls = .type "tuple" ∧ o.dict = none) ∨
      (T = "dict" ∧ ((∃ kvs, H p = some (.dK kvs)) ∨ ∃ kvs, H p = some (.dT kvs))) ∨ (T = "set" ∧ ∃ S n, H p = some (.set S n))
  | _ => False
theorem tyV_is {pins : List (Addr × Obj)} {σ : St} {H : Hp} {s : Shared} {T : String} {x : V} {v : Value} (I : Inv X pins σ H s) (r : RelV x v) (ty : tyV X.K T x H) :
    s.TypeIs v T ∧ ∀ a, v = .ref a → ∃ ob, s.heap.get? a = some ob ∧ ob.dict = none := by
  cases x with
  | str z =>
    obtain ⟨t, rfl⟩ := r
    cases (show T = "str" from ty)
    exact ⟨typeIs_str s z t, fun _ e => nomatch e⟩
  | int i =>
    obtain ⟨t, rfl⟩ := r
    cases (show T = "int" from ty)
    exact ⟨typeIs_int s i t, fun _ e => nomatch e⟩
  | ref p =>
    cases r
    rcases ty with ⟨rfl, xs, hq⟩ | ⟨rfl, o, hk, hc, hd⟩ | ⟨rfl, hk⟩ | ⟨rfl, S, n, hk⟩
    · obtain ⟨its, _, pl, _⟩ := I.list hq
      refine ⟨pl.isList.typeIs, fun a e => ?_⟩
      cases e
      obtain ⟨o, n, e, c, hd, _⟩ := pl
      exact ⟨o, e, hd⟩
    · refine ⟨⟨o, I.kIn p o hk, hc⟩, fun a e => ?_⟩
      cases e
      exact ⟨o, I.kIn _ o hk, hd⟩
    · have z : ∃ o, s.heap.get? p = some o ∧ o.ExactDict := by
        rcases hk with ⟨kvs, hk⟩ | ⟨kvs, hk⟩
        · obtain ⟨_, _, _, _, o, _, _, e, ex, _⟩ := I.hok p _ hk
          exact ⟨o, e, ex⟩
        · obtain ⟨_, _, _, _, o, _, _, e, ex, _⟩ := I.hok p _ hk
          exact ⟨o, e, ex⟩
      obtain ⟨o, e, ex⟩ := z
      refine ⟨⟨o, e, ex.1⟩, fun a e2 => ?_⟩
      cases e2
      exact ⟨o, e, ex.2.1⟩
    · obtain ⟨o, _, _, _, e, ex, _⟩ := I.hok p _ hk
      refine ⟨⟨o, e, ex.1⟩, fun a e2 => ?_⟩
      cases e2
      exact ⟨o, e, ex.2.1⟩
  | _ => exact False.elim ty
def tBM0 (K : PySem.W.Frag) (T : String) (r : V → List V → Hp → VK → Prop) (to : TE) : TE := fun σ H Q => to σ H fun x H1 => tyV K T x H1 ∧ r x [] H1 Q
def tBM (K : PySem.W.Frag) (T : String) (r : V → List V → Hp → VK → Prop) (to : TE) (t : TA) : TE := fun σ H Q => to σ H fun x H1 => tyV K T x H1 ∧ t σ H1 fun xs H2 => r x xs H2 Q
variable {o e : Expr} {es : List Expr} {to : TE} {t : TA} {name : Str} {apos cpos : Pos} {T id : String} {r : V → List V → Hp → VK → Prop}
theorem pe_bm (pa : PlainAttrs T) (slot : Slot T name id) (hty : typeOf (.builtin id) = pure (.type "method_descriptor")) (hm : MtR X id r) (ho : PE X o to) (ha : PA X (e :: es) t)
    (hbase : attributeBase o name X.env (eval o X.env) = eval o X.env := by rfl)
    (hfew : ((backTo cpos (starEach (e :: es) X.env)).all (fun x => !x.1) && (backToKw cpos (keywordEach [] X.env)).all (fun x => x.1.isSome)
      && decide ((e :: es).length + ([] : List Keyword).length + (if ([] : List Keyword).isEmpty then 0 else 1) < 30)) = true := by rfl)
    (hline : (apos.endLine == cpos.line) = true := by rfl) (hs : starEach (e :: es) X.env = (false, eval e X.env) :: starEach es X.env := by rfl) (hplain : (backTo cpos (starEach es X.env)).any (·.1) = false := by rfl) :
    PE X (.Call (.Attribute o name apos) (e :: es) [] cpos) (tBM X.K T r to t) := by
  intro pins s σ H Q I h
  refine wpAny_Call_method_late hbase hfew hline rfl (thn (ho pins s σ H _ I h) fun v s1 ⟨x, H1, I1, r1, ty, q1⟩ => ?_)
  obtain ⟨h1, h2⟩ := tyV_is I1 r1 ty
  refine ⟨T, id, pa, slot, hty, h1, h2, ?_⟩
  have hA := ha cpos pins s1 σ H1 _ I1 q1
  rw [hs] at hA ⊢
  refine Calls.callWith_builtin (by show (false || (backTo cpos (starEach es X.env)).any (·.1)) = false; rw [hplain] <;> rfl) (Calls.evalArgs_plain ?_)
  exact thn hA fun us s2 ⟨vs, H2, I2, r2, q2⟩ => hm pins s2 σ H2 x vs v us Q I2 r1 r2 q2
/- xs.append(e), list.index on a module's tuple .. are MtR facts of 06m -/
end
end L2

namespace L2
open PySem PySem.Spec PyProof.Rows

def MtM (X : Cx) (id : String) (r : V → List V → Hp → VK → Prop) : Prop :=
  ∀ (pins : List (Addr × Obj)) (s : Shared) (σ : St) (H : Hp) (x : V) (xs : List V) (v : Value) (us : List Value) (Q : VK), Inv X pins σ H s → RelV x v → Vals xs us → r x xs H Q →
    wpAny (model X.prog X.w) X.A (call (.builtin id) (v :: us)) (EP X pins σ Q) X.xe s

/-! ### lists of values -/
theorem Vals.one : ∀ {x : V} {us : List Value}, Vals [x] us → ∃ u, us = [u] ∧ RelV x u
  | _, _, .cons r .nil => ⟨_, rfl, r⟩
theorem Vals.two : ∀ {x y : V} {us : List Value}, Vals [x, y] us → ∃ u v, us = [u, v] ∧ RelV x u ∧ RelV y v
  | _, _, _, .cons r (.cons q .nil) => ⟨_, _, rfl, r, q⟩
theorem Vals.dropLast {xs : List V} {us : List Value} (h : Vals xs us) : Vals xs.dropLast us.dropLast := by
  induction h with
  | nil => exact .nil
  | cons r t ih =>
    cases t with
    | nil => exact .nil
    | cons q t' => exact .cons r ih
theorem Vals.eraseIdx : ∀ {xs : List V} {us : List Value} (i : Nat), Vals xs us → Vals (xs.eraseIdx i) (us.eraseIdx i)
  | _, _, _, .nil => .nil
  | _, _, 0, .cons _ t => t
  | _, _, i + 1, .cons r t => .cons r (Vals.eraseIdx i t)
theorem Vals.reverse {xs : List V} {us : List Value} (h : Vals xs us) : Vals xs.reverse us.reverse := by
  induction h with
  | nil => exact .nil
  | cons r t ih => rw [List.reverse_cons, List.reverse_cons]; exact Vals.append ih (.cons r .nil)

section
variable {X : Cx} {pins : List (Addr × Obj)} {σ : St} {H : Hp} {s : Shared} {l b : Addr} {xs ys zs : List V}

/-! ### the two steps: a tracked list is rewritten, a new list is laid -/
theorem Inv.fresh (I : Inv X pins σ H s) : H s.heap.objs.size = none := I.hok.fresh (Nat.le_refl _)

end

section
variable {X : Cx}

/-! ### methods -/
def rAppend : V → List V → Hp → VK → Prop := fun x vs H Q => ∃ l xs y, x = .ref l ∧ vs = [y] ∧ H l = some (.lst xs) ∧ xs.length < sizeLine ∧ Q .non (upd H l (.lst (xs ++ [y])))

def rExtend : V → List V → Hp → VK → Prop := fun x vs H Q => ∃ l b xs zs, x = .ref l ∧ vs = [.ref b] ∧ H l = some (.lst xs) ∧ H b = some (.lst zs) ∧ xs.length + zs.length ≤ sizeLine ∧ Q .non (upd H l (.lst (xs ++ zs)))

def rPop : V → List V → Hp → VK → Prop := fun x vs H Q => ∃ l xs y, x = .ref l ∧ vs = [] ∧ H l = some (.lst xs) ∧ xs[xs.length - 1]? = some y ∧ Q y (upd H l (.lst xs.dropLast))

def rPopAt : V → List V → Hp → VK → Prop := fun x vs H Q => ∃ l xs i k y, x = .ref l ∧ vs = [.int i] ∧ H l = some (.lst xs) ∧ -(2 ^ 63) ≤ i ∧ i < 2 ^ 63 ∧ seqIndex? i xs.length = some k ∧ xs[k]? = some y ∧ Q y (upd H l (.lst (xs.eraseIdx k)))

def rReverse : V → List V → Hp → VK → Prop := fun x vs H Q => ∃ l xs, x = .ref l ∧ vs = [] ∧ H l = some (.lst xs) ∧ Q .non (upd H l (.lst xs.reverse))

def rClear : V → List V → Hp → VK → Prop := fun x vs H Q => ∃ l xs, x = .ref l ∧ vs = [] ∧ H l = some (.lst xs) ∧ Q .non (upd H l (.lst []))

/-! ### list + list, list += list, list * int -/
def rCat : R2 := fun x y H Q => ∃ l b xs zs, x = .ref l ∧ y = .ref b ∧ H l = some (.lst xs) ∧ H b = some (.lst zs) ∧ xs.length + zs.length ≤ sizeLine ∧ ∀ p, H p = none → Q (.ref p) (upd H p (.lst (xs ++ zs)))
/-- a list times an int (a negative one is nothing) -/
def rRep : R2 := fun x y H Q => ∃ l k xs, x = .ref l ∧ y = .int k ∧ H l = some (.lst xs) ∧ -(2 ^ 63) ≤ k ∧ k < 2 ^ 63 ∧ xs.length * k.toNat ≤ sizeLine ∧
  ∀ p, H p = none → Q (.ref p) (upd H p (.lst (List.replicate k.toNat xs).flatten))

/-! ### del xs[i] -/
end

/-! ### xs[a:b] = ys -/
section
variable {prog : Program} {w : World} {A : Around} {E : Value → Shared → Prop} {s : Shared}
end

section
variable {X : Cx}
end
end L2

namespace L2
open PySem PySem.Spec PyProof.Rows

/-! ### lists of pairs as tables -/
section
variable {κ : Type} [DecidableEq κ]
def valV (kvs : List (κ × V)) (k : κ) : Option V := (kvs.find? fun kv => decide (kv.1 = k)).map (·.2)
/-- in its place, or at the end -/
def putK (kvs : List (κ × V)) (k : κ) (v : V) : List (κ × V) :=
  if (kvs.any fun kv => decide (kv.1 = k)) = true then kvs.map (fun kv => if kv.1 = k then (kv.1, v) else kv) else kvs ++ [(k, v)]
def dropK (kvs : List (κ × V)) (k : κ) : List (κ × V) := kvs.filter fun kv => decide (kv.1 ≠ k)

theorem valV_pos {p : κ × V} {r : List (κ × V)} {k : κ} (e : p.1 = k) : valV (p :: r) k = some p.2 := by simp [valV, List.find?_cons, e]
theorem valV_neg {p : κ × V} {r : List (κ × V)} {k : κ} (e : ¬ p.1 = k) : valV (p :: r) k = valV r k := by simp [valV, List.find?_cons, e]
theorem valV_any (k : κ) : ∀ kvs : List (κ × V), (kvs.any fun kv => decide (kv.1 = k)) = (valV kvs k).isSome
  | [] => rfl
  | p :: r => by
    rw [List.any_cons]
    by_cases e : p.1 = k
    · simp only [valV_pos e, decide_eq_true e, Bool.true_or, Option.isSome_some]
    · rw [valV_neg e, decide_eq_false e, Bool.false_or]; exact valV_any k r

theorem RelO.isSome_eq {o : Option V} {u : Option Value} (r : RelO o u) : o.isSome = u.isSome := by
  cases o with
  | none => cases u with
    | none => rfl
    | some _ => exact (show False from r).elim
  | some _ => cases u with
    | none => exact (show False from r).elim
    | some _ => rfl
theorem RelO.getD {o : Option V} {u : Option Value} {d : V} {d' : Value} (r : RelO o u) (rd : RelV d d') : RelV (o.getD d) (u.getD d') := by
  cases o with
  | none => cases u with
    | none => exact rd
    | some _ => exact (show False from r).elim
  | some _ => cases u with
    | none => exact (show False from r).elim
    | some _ => exact r

/-- raw tables of the same keys -/
theorem KV.val {kvs : List (κ × V)} {vs : List (κ × Value)} (r : KV kvs vs) (k : κ) : RelO (valV kvs k) (valueAt vs k) := by
  unfold KV at r
  induction r with
  | nil => exact True.intro
  | @cons p q ps qs h t ih =>
    obtain ⟨h1, h2⟩ := h
    by_cases e : p.1 = k
    · have e' : q.1 = k := h1.symm.trans e
      have b : valueAt (q :: qs) k = some q.2 := by simp [valueAt, List.find?_cons, e']
      rw [valV_pos e, b]; exact h2
    · have e' : ¬ q.1 = k := fun z => e (h1.trans z)
      have b : valueAt (q :: qs) k = valueAt qs k := by simp [valueAt, List.find?_cons, e']
      rw [valV_neg e, b]; exact ih
theorem KV.any {kvs : List (κ × V)} {vs : List (κ × Value)} (r : KV kvs vs) (k : κ) : (kvs.any fun kv => decide (kv.1 = k)) = vs.any fun kv => decide (kv.1 = k) := by
  unfold KV at r
  induction r with
  | nil => rfl
  | cons h t ih => rw [List.any_cons, List.any_cons, ih, h.1]
theorem KV.repl {kvs : List (κ × V)} {vs : List (κ × Value)} (r : KV kvs vs) (k : κ) {y : V} {u : Value} (ry : RelV y u) :
    KV (kvs.map fun kv => if kv.1 = k then (kv.1, y) else kv) (vs.map fun kv => if kv.1 = k then (kv.1, u) else kv) := by
  unfold KV at r ⊢
  induction r with
  | nil => exact .nil
  | @cons p q ps qs h t ih =>
    rw [List.map_cons, List.map_cons]
    refine .cons ?_ ih
    obtain ⟨h1, h2⟩ := h
    by_cases e : p.1 = k
    · rw [if_pos e, if_pos (h1.symm.trans e)]; exact ⟨h1, ry⟩
    · rw [if_neg e, if_neg (fun z => e (h1.trans z))]; exact ⟨h1, h2⟩
theorem KV.put {kvs : List (κ × V)} {vs : List (κ × Value)} (r : KV kvs vs) (k : κ) {y : V} {u : Value} (ry : RelV y u) : KV (putK kvs k y) (stored vs k u) := by
  unfold putK stored
  rw [r.any k]
  by_cases e : (vs.any fun kv => decide (kv.1 = k)) = true
  · rw [if_pos e, if_pos e]; exact r.repl k ry
  · rw [if_neg e, if_neg e]; exact Paired.snoc r ⟨rfl, ry⟩
theorem KV.drop {kvs : List (κ × V)} {vs : List (κ × Value)} (r : KV kvs vs) (k : κ) : KV (dropK kvs k) (without vs k) := by
  unfold KV at r ⊢
  unfold dropK without
  induction r with
  | nil => exact .nil
  | @cons p q ps qs h t ih =>
    obtain ⟨h1, h2⟩ := h
    rw [List.filter_cons, List.filter_cons]
    by_cases e : p.1 = k
    · have a : ¬ decide (p.1 ≠ k) = true := by simp [e]
      have b : ¬ decide (q.1 ≠ k) = true := by simp [h1.symm.trans e]
      rw [if_neg a, if_neg b]; exact ih
    · have e' : ¬ q.1 = k := fun z => e (h1.trans z)
      have a : decide (p.1 ≠ k) = true := by simp [e]
      have b : decide (q.1 ≠ k) = true := by simp [e']
      rw [if_pos a, if_pos b]; exact .cons ⟨h1, h2⟩ ih
theorem KV.keys {kvs : List (κ × V)} {vs : List (κ × Value)} (r : KV kvs vs) : kvs.map (·.1) = vs.map (·.1) := by
  unfold KV at r
  induction r with
  | nil => rfl
  | cons h t ih => rw [List.map_cons, List.map_cons, ih, h.1]
theorem KV.length {kvs : List (κ × V)} {vs : List (κ × Value)} (r : KV kvs vs) : kvs.length = vs.length := Paired.length r
end


/-! ### a tracked dict, its keys ints and texts or tuples of these -/

/-- raw entries of a dict with tuple keys -/
abbrev KT (H : Hp) : List (List Key × V) → List (List Key × Addr × Value) → Prop := Paired fun p q => p.1 = q.1 ∧ H q.2.1 = some (.tup (p.1.map kV)) ∧ RelV p.2 q.2.2
theorem KT.val {H : Hp} {kvs : List (List Key × V)} {xs : List (List Key × Addr × Value)} (r : KT H kvs xs) (k : List Key) : RelO (valV kvs k) ((atKey xs k).map (·.2)) := by
  induction r with
  | nil => exact True.intro
  | @cons p q ps qs h t ih =>
    obtain ⟨h1, _, h2⟩ := h
    by_cases e : p.1 = k
    · have e' : q.1 = k := h1.symm.trans e
      have b : atKey (q :: qs) k = some q.2 := by simp [atKey, List.find?_cons, e']
      rw [valV_pos e, b]; exact h2
    · have e' : ¬ q.1 = k := fun z => e (h1.trans z)
      have b : atKey (q :: qs) k = atKey qs k := by simp [atKey, List.find?_cons, e']
      rw [valV_neg e, b]; exact ih
theorem KT.repl {H : Hp} {kvs : List (List Key × V)} {xs : List (List Key × Addr × Value)} (r : KT H kvs xs) (k : List Key) {y : V} {u : Value} (ry : RelV y u) :
    KT H (kvs.map fun kv => if kv.1 = k then (kv.1, y) else kv) (xs.map (putAt k u)) := by
  induction r with
  | nil => exact .nil
  | @cons p q ps qs h t ih =>
    rw [List.map_cons, List.map_cons]
    refine .cons ?_ ih
    obtain ⟨h1, h2, h3⟩ := h
    unfold putAt
    by_cases e : p.1 = k
    · rw [if_pos e, if_pos (h1.symm.trans e)]; exact ⟨h1, h2, ry⟩
    · rw [if_neg e, if_neg (fun z => e (h1.trans z))]; exact ⟨h1, h2, h3⟩
theorem KT.put {H : Hp} {kvs : List (List Key × V)} {xs : List (List Key × Addr × Value)} (r : KT H kvs xs) (k : List Key) {b : Addr} {y : V} {u : Value} (hb : H b = some (.tup (k.map kV))) (ry : RelV y u) :
    KT H (putK kvs k y) (storedH xs k b u) := by
  have e : (kvs.any fun kv => decide (kv.1 = k)) = (atKey xs k).isSome := by
    rw [valV_any, (r.val k).isSome_eq, Option.isSome_map]
  unfold putK storedH
  rw [e]
  by_cases q : (atKey xs k).isSome = true
  · rw [if_pos q, if_pos q]; exact r.repl k ry
  · rw [if_neg q, if_neg q]; exact Paired.snoc r ⟨rfl, hb, ry⟩
theorem KT.keeps {H H' : Hp} {kvs : List (List Key × V)} {xs : List (List Key × Addr × Value)} (r : KT H kvs xs) (ht : ∀ b ys, H b = some (.tup ys) → H' b = some (.tup ys)) : KT H' kvs xs :=
  Paired.mapP r fun _ _ z => ⟨z.1, ht _ _ z.2.1, z.2.2⟩

section
variable {P : Program} {w : World} {H : Hp} {h : Heap} {a : Addr}
theorem rd_of {u : HO} (ok : HOk P w H h) (e : Rd H a u) : ObjOk P w H h a u := e.ok ok
theorem dk_rd {kvs : List (Key × V)} (ok : HOk P w H h) (e : Rd H a (.dK kvs)) : kvs.length ≤ sizeLine ∧ (a == sysModules) = false ∧ ∃ vs, KV kvs vs ∧ h.DictOf (mixKind P w) a vs :=
  show ObjOk P w H h a (.dK kvs) from rd_of ok e
end

/-- what the dict at a holds at the key y -/
def DGet (H : Hp) (a : Addr) (y : V) (r : Option V) : Prop :=
  (∃ kvs k, Rd H a (.dK kvs) ∧ y = kV k ∧ r = valV kvs k) ∨ ∃ kvs k b, Rd H a (.dT kvs) ∧ y = .ref b ∧ H b = some (.tup (k.map kV)) ∧ r = valV kvs k
/-- the heap behind a[y] = v -/
def DPut (H : Hp) (a : Addr) (y v : V) (H' : Hp) : Prop :=
  (∃ kvs k, H a = some (.dK kvs) ∧ y = kV k ∧ kvs.length < sizeLine ∧ H' = upd H a (.dK (putK kvs k v))) ∨
  ∃ kvs k b, H a = some (.dT kvs) ∧ y = .ref b ∧ H b = some (.tup (k.map kV)) ∧ kvs.length < sizeLine ∧ H' = upd H a (.dT (putK kvs k v))
theorem DGet.k {H : Hp} {a : Addr} {kvs : List (Key × V)} {k : Key} (e : H a = some (.dK kvs)) : DGet H a (kV k) (valV kvs k) := .inl ⟨kvs, k, .inl e, rfl, rfl⟩
theorem DGet.t {H : Hp} {a b : Addr} {kvs : List (List Key × V)} {k : List Key} (e : H a = some (.dT kvs)) (eb : H b = some (.tup (k.map kV))) : DGet H a (.ref b) (valV kvs k) := .inr ⟨kvs, k, b, .inl e, rfl, eb, rfl⟩
theorem DPut.k {H : Hp} {a : Addr} {kvs : List (Key × V)} {k : Key} {v : V} (e : H a = some (.dK kvs)) (hl : kvs.length < sizeLine) : DPut H a (kV k) v (upd H a (.dK (putK kvs k v))) := .inl ⟨kvs, k, e, rfl, hl, rfl⟩
theorem DPut.t {H : Hp} {a b : Addr} {kvs : List (List Key × V)} {k : List Key} {v : V} (e : H a = some (.dT kvs)) (eb : H b = some (.tup (k.map kV))) (hl : kvs.length < sizeLine) :
    DPut H a (.ref b) v (upd H a (.dT (putK kvs k v))) := .inr ⟨kvs, k, b, e, rfl, eb, hl, rfl⟩


section
variable {X : Cx} {pins : List (Addr × Obj)} {σ : St} {H : Hp} {s : Shared} {a : Addr} {y v : V} {u r : Value} {o : Option V} {A : Around} {E : Value → Shared → Prop}

theorem Inv.big (I : Inv X pins σ H s) : sysModules < s.heap.objs.size := by
  have h : mainGlobals < s.heap.objs.size := (I.mod.glob.keeps I.bk).lt
  exact Nat.lt_trans (by decide) h

end

section
variable {X : Cx} {pins : List (Addr × Obj)} {σ : St} {H : Hp} {s : Shared} {a : Addr} {kvs : List (Key × V)} {k : Key} {u : Value} {A : Around} {E : Value → Shared → Prop}
end


/-! ### readings and rules -/
/-- the element of a subscription, not a slice -/
def NoSl (i : Expr) : Prop := ∀ ov iv, subscripted i false ov iv = operate [ov, iv] (getItem ov iv)


/-- d[y] -/
def tDGet (td ty : TE) : TE := fun σ H Q => td σ H fun x H1 => ty σ H1 fun y H2 => ∃ a v, x = .ref a ∧ DGet H2 a y (some v) ∧ Q v H2
/-- y in d, y not in d -/
def tDIn (ty td : TE) : TE := fun σ H Q => ty σ H fun y H1 => td σ H1 fun x H2 => ∃ a o, x = .ref a ∧ DGet H2 a y o ∧ Q (.bl o.isSome) H2
def tDNotIn (ty td : TE) : TE := fun σ H Q => ty σ H fun y H1 => td σ H1 fun x H2 => ∃ a o, x = .ref a ∧ DGet H2 a y o ∧ Q (.bl (!o.isSome)) H2
/-- d[y] = v -/
def sDPut (td ty tv : TE) : TS := fun D σ H => tv σ H fun v H1 => td σ H1 fun x H2 => ty σ H2 fun y H3 => ∃ a H4, x = .ref a ∧ DPut H3 a y v H4 ∧ D.nx σ H4
/-- d[y] op= v -/
def sDAug (td ty tv : TE) (rd : V → V → Hp → VK → Prop) : TS := fun D σ H => td σ H fun x H1 => ty σ H1 fun y H2 => ∃ a v, x = .ref a ∧ DGet H2 a y (some v) ∧
  tv σ H2 fun y2 H3 => rd v y2 H3 fun z H4 => ∃ H5, DPut H4 a y z H5 ∧ D.nx σ H5
/-- del d[y] -/
def sDDel (td ty : TE) : TS := fun D σ H => td σ H fun x H1 => ty σ H1 fun y H2 => ∃ a kvs k, x = .ref a ∧ H2 a = some (.dK kvs) ∧ y = kV k ∧ (valV kvs k).isSome = true ∧ D.nx σ (upd H2 a (.dK (dropK kvs k)))

section
variable {X : Cx} {o i e value : Expr} {pos pos' tpos : Pos} {td ty tv : TE}
end


/-! ### displays -/
theorem dk_empty {P : Program} {w : World} {H : Hp} (h : Heap) (hb : sysModules < h.objs.size) : ObjOk P w H (h.push { cls := .type "dict", data := .dict #[] }) h.objs.size (.dK []) :=
  ⟨Nat.zero_le _, beq_eq_false_iff_ne.mpr (Ne.symm (Nat.ne_of_lt hb)), [], .nil, Heap.DictOf.new h⟩
/-- {}, to be a dict of the kind that is wanted -/
def tDNewK : TE := fun _ H Q => ∀ p, H p = none → Q (.ref p) (upd H p (.dK []))
def tDNewT : TE := fun _ H Q => ∀ p, H p = none → Q (.ref p) (upd H p (.dT []))
section
variable {X : Cx} {pos : Pos}
theorem pe_dnewK : PE X (.Dict [] [] pos) tDNewK := fun pins s σ H Q I h =>
  wpAny_Dict_empty ⟨.ref s.heap.objs.size, _, I.laid (a := s.heap.objs.size) (o := .dK []) (t' := s.toks) (fun _ _ q => Heap.get?_push_of_some _ q) (Nat.le_refl _) (dk_empty s.heap I.big), rfl, h _ (I.hok.fresh (Nat.le_refl _))⟩
end

/-- the pairs of a display, from the left -/
def tPairs : List (TE × TE) → St → Hp → (List (V × V) → Hp → Prop) → Prop
  | [], _, H, Q => Q [] H
  | (tk, tv) :: r, σ, H, Q => tk σ H fun x H1 => tv σ H1 fun y H2 => tPairs r σ H2 fun ps H3 => Q ((x, y) :: ps) H3
abbrev VV : List (V × V) → List (Value × Value) → Prop := Paired fun p q => RelV p.1 q.1 ∧ RelV p.2 q.2
def PPs (X : Cx) (pos : Pos) (keys : List (Option Expr)) (values : List Expr) (trs : List (TE × TE)) : Prop :=
  ∀ (pins : List (Addr × Obj)) (s : Shared) (σ : St) (H : Hp) (Q : List (V × V) → Hp → Prop), Inv X pins σ H s → tPairs trs σ H Q →
    wpAny (model X.prog X.w) X.A (evalPairs (pairTrees keys values X.env pos)) (fun vs s' => ∃ ps H', Inv X pins σ H' s' ∧ VV ps vs ∧ Q ps H') X.xe s

def mergeK (kvs more : List (Key × V)) : List (Key × V) := more.foldl (fun acc kv => putK acc kv.1 kv.2) kvs
/-- {k: v, ..} with keys ints and texts; the new dict stands empty while the pairs are made -/
def tDisp (trs : List (TE × TE)) : TE := fun σ H Q => ∀ p, H p = none → tPairs trs σ (upd H p (.dK [])) fun ps H2 => H2 p = some (.dK []) ∧ ∃ kvs : List (Key × V), ps = kvs.map (fun kv => (kV kv.1, kv.2)) ∧ kvs.length ≤ 15 ∧ Q (.ref p) (upd H2 p (.dK (mergeK [] kvs)))


/-! ### methods -/
/-- a method call o.m(e) of a built-in, with one argument: what must be seen of the text -/
structure M1 (X : Cx) (o : Expr) (m : Str) (apos : Pos) (e : Expr) (cpos : Pos) : Prop where
  base : attributeBase o m X.env (eval o X.env) = eval o X.env
  few : ((backTo cpos (starEach [e] X.env)).all (fun x => !x.1) && (backToKw cpos (keywordEach [] X.env)).all (fun x => x.1.isSome)
    && decide (([e] : List Expr).length + ([] : List Keyword).length + (if ([] : List Keyword).isEmpty then 0 else 1) < 30)) = true
  line : (apos.endLine == cpos.line) = true
  trees : backTo cpos (starEach [e] X.env) = [(false, eval e X.env)]
structure M2 (X : Cx) (o : Expr) (m : Str) (apos : Pos) (e f : Expr) (cpos : Pos) : Prop where
  base : attributeBase o m X.env (eval o X.env) = eval o X.env
  few : ((backTo cpos (starEach [e, f] X.env)).all (fun x => !x.1) && (backToKw cpos (keywordEach [] X.env)).all (fun x => x.1.isSome)
    && decide (([e, f] : List Expr).length + ([] : List Keyword).length + (if ([] : List Keyword).isEmpty then 0 else 1) < 30)) = true
  line : (apos.endLine == cpos.line) = true
  trees : backTo cpos (starEach [e, f] X.env) = [(false, eval e X.env), (false, eval f X.env)]

/-- a is a dict, whatever its keys -/
def IsD (H : Hp) (a : Addr) : Prop := (∃ kvs, Rd H a (.dK kvs)) ∨ ∃ kvs, Rd H a (.dT kvs)

section
variable {X : Cx} {pins : List (Addr × Obj)} {σ : St} {H : Hp} {s : Shared} {a : Addr} {y d : V} {u r : Value} {o : Option V} {A : Around} {E : Value → Shared → Prop}
end

def tDGet1 (td ty : TE) : TE := fun σ H Q => td σ H fun x H1 => ∃ a, x = .ref a ∧ IsD H1 a ∧ ty σ H1 fun y H2 => ∃ o, DGet H2 a y o ∧ Q (o.getD .non) H2
def tDGet2 (td ty tx : TE) : TE := fun σ H Q => td σ H fun x H1 => ∃ a, x = .ref a ∧ IsD H1 a ∧ ty σ H1 fun y H2 => tx σ H2 fun z H3 => ∃ o, DGet H3 a y o ∧ Q (o.getD z) H3
/-- d.pop(k): there; d.pop(k, x): there or not -/
def tDPop1 (td ty : TE) : TE := fun σ H Q => td σ H fun x H1 => ∃ a, x = .ref a ∧ IsD H1 a ∧ ty σ H1 fun y H2 => ∃ kvs k v, H2 a = some (.dK kvs) ∧ y = kV k ∧ valV kvs k = some v ∧ Q v (upd H2 a (.dK (dropK kvs k)))
def tDPop2 (td ty tx : TE) : TE := fun σ H Q => td σ H fun x H1 => ∃ a, x = .ref a ∧ IsD H1 a ∧ ty σ H1 fun y H2 => tx σ H2 fun z H3 => ∃ kvs k, H3 a = some (.dK kvs) ∧ y = kV k ∧
  (∀ v, valV kvs k = some v → Q v (upd H3 a (.dK (dropK kvs k)))) ∧ (valV kvs k = none → Q z H3)
section
variable {X : Cx} {o e f : Expr} {apos cpos : Pos} {td ty tx : TE}
end

/-! ### dict(d): a copy -/
section
variable {X : Cx} {pins : List (Addr × Obj)} {σ : St} {H : Hp} {s : Shared} {a : Addr} {kvs : List (Key × V)} {A : Around} {E : Value → Shared → Prop}
end


section
variable {X : Cx} {pins : List (Addr × Obj)} {σ : St} {H : Hp} {s : Shared} {a : Addr} {y : V} {u : Value} {A : Around} {E : Value → Shared → Prop}
end
end L2

namespace Att
open PySem PySem.W PySem.Calls PyProof.Rows

/-! ### the script -/
theorem ints_of_wellAll {P : Params} {h : Heap} : ∀ (ns : List Int) (vs : List Value), WellAll P h vs (ns.map WData.int) → IntsAre vs ns := by
  intro ns
  induction ns with
  | nil =>
    intro vs w
    rw [List.map_nil] at w
    cases w
    exact .nil
  | cons n ns ih =>
    intro vs w
    rw [List.map_cons] at w
    cases w with
    | cons a b =>
      cases a
      exact .cons _ _ (ih _ b)

theorem script_of {l : OpenLaw} {n : Nat} (hn : l.most = some n) {P : Params} {h : Heap} {args : List WData} {vals : List Value}
    (hpre : l.row.toRowW.claim.pre args = true) (hwl : WellAll P h vals args) :
    ∃ a vs ns, vals = [Value.ref a] ∧ args = [WData.list (ns.map WData.int)] ∧ h.get? a = some { cls := .type "list", data := .seq vs.toArray } ∧ IntsAre vs ns ∧ ns.length ≤ n := by
  have hsh : WShape.hasAll [] args [.list .int] = true := (pre_splitW hpre).1
  have hc : l.pre.holds [] { args := args } = true := (pre_splitW hpre).2
  obtain ⟨d, r, rfl, h1, h2⟩ := hasAllW_cons hsh
  obtain rfl := hasAllW_nil h2
  obtain ⟨xs, rfl, h3⟩ := hasW_list h1
  obtain ⟨ns, rfl⟩ := items_int h3
  have hlen : ns.length ≤ n := by
    unfold OpenLaw.pre at hc
    have h4 : (WTm.not (.lt (.lit (.int (n : Int))) (.len (.arg 0)))).holds [] { args := [.list (ns.map .int)] } = true := by
      have h4 := (holds_andW hc).1
      rw [hn] at h4
      exact h4
    have h5 := condW_of h4 (w_not (w_lt w_lit (w_len_list (w_arg rfl))))
    rw [List.length_map] at h5
    refine Nat.le_of_not_lt fun q => ?_
    have q' : (n : Int) < ((ns.length : Nat) : Int) := by omega
    first
      | (rw [decide_eq_true q'] at h5; exact absurd h5 (by decide))
      | (simp at h5; omega)
  cases hwl with
  | cons w1 w2 =>
    cases w2
    cases w1 with
    | list ho hall => exact ⟨_, _, ns, rfl, rfl, ho, ints_of_wellAll ns _ hall, hlen⟩

theorem post_true (l : OpenLaw) (args : List WData) : l.row.toRowW.claim.post args (.bool true) args = true :=
  postW_of (r := l.row.toRowW) (X := (true == true))
    (show WShape.has [] (.bool true) .bool = true by first | rfl | decide | simp [WShape.has, WShape.arms, WShape.armsAll])
    (show (WTm.eq .res (.lit (.bool true))).value [] { args := args, res := some (.bool true), after := args } = some (.bool (true == true)) from w_eq_bool (w_res rfl) w_lit) rfl

/-! ### the attachment: holds_open's last premise (the goal 'hc' behind k_head) from a wpAny of the law's body -/

/-- the same from a codeAny of the CALL (for a layer whose function contracts speak of calls) -/
theorem attach_call {l : OpenLaw} {n : Nat} {q : Program} {loose : List Str} {XP : (Str → Option Value) → Heap → Prop} {YP : World → Heap → Prop} {d : DefRec}
    (hn : l.most = some n) (hdf : d.params.defaults = [])
    (call : ∀ (w : World) (s₀ s₁ : Shared) (mg mb : Str → Option Value) (fa : Addr) (o : Obj) (pm cd doc : Value) (a : Addr) (vs : List Value) (ns : List Int),
      Ground q loose [] XP w s₀ mg mb s₁.heap → YP w s₁.heap →
      s₁.heap.get? fa = some o → o.data = .func (docDef d.name d.params d.body d.scope pm cd doc) → s₁.heap.CodeRec cd d.name → mg d.name = some (.ref fa) →
      s₁.heap.get? a = some { cls := .type "list", data := .seq vs.toArray } → IntsAre vs ns → ns.length ≤ n → s₁.gens = #[] →
      codeAny (model l.prog w) callerA (.call (.ref fa) ⟨[.ref a], []⟩) (fun r s' => r = .ok (.ret (.bool true)) ∧ OldK s₁.heap s'.heap ∧ s'.os = s₁.os ∧ AllBare s'.gens) s₁) :
    WalkO q loose XP YP l.row.toRowW d [] (fun f vs => PySem.call f vs) := by
  intro w s₀ s₁ mg mb G Y fa o pm cd doc dV kV ho hd hcd hD hmg hg args vals as hpre hlay hrd hwl hlo
  obtain rfl : dV = .none := Dflts.none hD hdf
  obtain rfl : kV = .none := Dflts.noKw hD
  obtain ⟨a, vs, ns, rfl, rfl, hobj, hints, hlen⟩ := script_of hn hpre hwl
  refine enter_call (codeAny_mono (call w s₀ s₁ mg mb fa o pm cd doc a vs ns G Y ho (fd_plain hd) hcd hmg hobj hints hlen hg) fun r s' hq => ?_)
  obtain ⟨rfl, h2, h3, h4⟩ := hq
  exact ⟨.inl ⟨.bool true, .bool true, [], rfl, fun _ => rfl, .bool true, post_true l _, fun _ => ⟨List.Pairwise.nil, fun _ hm => (nomatch hm)⟩⟩, h2, h3, h4⟩


/-! ### rules over ANY heap (no ledger) from facts about the written part K: the library's own take a ledger (News) for what they write -/
section
variable {prog : Program} {w : World} {A : Around} {E : Value → Shared → Prop} {s : Shared} {K : Frag}





/-! the whole heap as the ledger: makes every rule that writes through a ledger a rule over any heap -/
def noObjs (h : Heap) : Heap := { h with objs := #[] }
def ledger (h : Heap) (L d : Addr) : List (Addr × Obj) := (List.range h.objs.size).filterMap fun a => if a = L ∨ a = d then none else (h.get? a).map fun o => (a, o)

end
end Att

namespace L2
open PySem PySem.Spec PyProof.Rows

theorem vals_ints : ∀ {vs : List Value} {ns : List Int}, IntsAre vs ns → Vals (ns.map V.int) vs
  | _, _, .nil => .nil
  | _, _, .cons n t h => .cons ⟨t, rfl⟩ (vals_ints h)

/-- nothing is tracked but the script, known to the object (or it is an object of the module) -/
def Only (H : Hp) : Prop := ∀ b, H b = none ∨ ∃ o xs, H b = some (.frz o (.lst xs))

/-- THE HEAD: the law's promise, at the heap behind the top. F, the promise of the law's def, may use that base is part of the heap (so K.In base, base.Ns mainGlobals mg stand in Mod) -/
theorem law_call {P : Program} {w : World} {K : PySem.W.Frag} {mg mb : Str → Option Value} {CX : CXT} {k : Nat} {fa a : Addr} {fd : FuncData} {x : Str} {sp : Sp} {s₁ : Shared} {vs : List Value} {ns : List Int}
    (KX : K.In s₁.heap) (hns : s₁.heap.Ns mainGlobals mg) (hb : s₁.heap.Ns builtinsNs mb) (hbb : ∀ x : Str, x ≠ "__name__" → mb x = bootBuiltins x) (hlim : s₁.heap.NoLimit) (hg : s₁.gens = #[])
    (ha : s₁.heap.get? a = some { cls := .type "list", data := .seq vs.toArray }) (hi : IntsAre vs ns) (hl : ns.length ≤ sizeLine) (hr : Room k callerA)
    (F : ∀ base : Heap, K.In base → base.Ns mainGlobals mg → FnOk P w K mg base CX k fa fd [x] sp) (hbind : ∀ (s : Shared) (u : Value), BindsTo s fd ⟨[u], []⟩ [(x, u)])
    (hsp : ∀ H : Hp, Only H → SqL K H a (ns.map V.int) → sp [.ref a] H (fun v _ => v = .bl true) fun _ _ _ => False)
    (hCX : ∀ H e s', CX [] H s₁ (fun _ _ _ => False) e s' → False) :
    codeAny (model P w) callerA (.call (.ref fa) ⟨[.ref a], []⟩) (fun r s' => r = .ok (.ret (.bool true)) ∧ OldK s₁.heap s'.heap ∧ s'.os = s₁.os ∧ AllBare s'.gens) s₁ := by
  have rv := vals_ints hi
  have lenV := hi.length
  -- from an abstract heap in which nothing but the script may be tracked
  have core : ∀ H : Hp, Only H → SqL K H a (ns.map V.int) → HOk P w H s₁.heap → (∀ b, H b ≠ none → b = a) → (H a ≠ none → K.lookup a = none) →
      codeAny (model P w) callerA (.call (.ref fa) ⟨[.ref a], []⟩) (fun r s' => r = .ok (.ret (.bool true)) ∧ OldK s₁.heap s'.heap ∧ s'.os = s₁.os ∧ AllBare s'.gens) s₁ := by
    intro H hO hS hok hA hK
    have base_of : ∀ {b : Addr} {o : Obj}, s₁.heap.get? b = some o → H b = none → (hidT s₁.heap H).get? b = some o := fun e n => hidT_get e n
    have noA : ∀ {b : Addr} {o : Obj} {es : Array DictEntry} {ep : Nat}, s₁.heap.get? b = some o → o.data = .dict es ep → H b = none := fun {b o es ep} e d => by
      cases q : H b with
      | none => rfl
      | some u =>
        have e' : b = a := hA b (by rw [q]; simp)
        subst e'
        rw [ha] at e; cases e
        have d' : Data.seq vs.toArray _ = Data.dict es ep := d
        cases d'
    have nsK : ∀ {b : Addr} {m : Str → Option Value}, s₁.heap.Ns b m → (hidT s₁.heap H).Ns b m := fun {b m} ⟨o, es, ep, e, d, r⟩ => ⟨o, es, ep, base_of e (noA e d), d, r⟩
    have hKb : K.In (hidT s₁.heap H) := fun b o e => base_of (KX b o e) (by
      cases q : H b with
      | none => rfl
      | some u =>
        have e' : b = a := hA b (by rw [q]; simp)
        subst e'
        rw [hK (by rw [q]; simp)] at e; cases e)
    have hM : Mod K mg (hidT s₁.heap H) := ⟨hKb, nsK hns, ⟨mb, nsK hb, hbb⟩, let ⟨mc, h1, h2⟩ := hlim; ⟨mc, nsK h1, h2⟩⟩
    have e0 : Env0 P w K mg (hidT s₁.heap H) callerA [] s₁ H := ⟨rfl, hM, fun b o e => of_hidT e, Nat.le_of_eq (hidT_size _ _), trivial, fun b hb => absurd (show b ∈ ([] : List Addr) from hb) (by simp), hok, .of_eq hg⟩
    refine codeAny_mono ((F _ hKb (nsK hns)).run callerA [] s₁ H ⟨[.ref a], []⟩ [.ref a] [.ref a] _ _ hr e0 (hbind s₁ (.ref a)) (.cons rfl .nil) (hsp H hO hS)) fun r s' h => ?_
    cases r with
    | error e => exact (hCX H e s' h).elim
    | ok fl =>
      cases fl with
      | next => exact False.elim h
      | brk => exact False.elim h
      | cont => exact False.elim h
      | ret u =>
        obtain ⟨v, H', os, bare, un, hok', r', q⟩ := h
        have q' : v = .bl true := q
        subst q'
        obtain rfl : u = Value.bool true := r'
        refine ⟨rfl, OldK.of_keep fun b o e => ?_, os, bare⟩
        cases q : H b with
        | none => exact un.keep b o e q (by intro z; exact absurd (show b ∈ ([] : List Addr) from z) (by simp)) (by simp)
        | some u =>
          rcases hO b with z | ⟨ob, xs, z⟩
          · rw [q] at z; cases z
          · have z2 := un.frzs b ob _ z
            obtain ⟨e1, _⟩ := hok b _ z
            obtain ⟨e2, _⟩ := hok' b _ z2
            rw [e] at e1; cases e1
            exact e2
  cases hk : K.lookup a with
  | some o =>
    -- the script is one of the module's own objects
    have e := KX a o hk
    rw [ha] at e
    cases e
    refine core (fun _ => none) (fun _ => .inl rfl) (.inr ⟨_, vs.toArray, _, hk, rfl, rfl, rfl, by rw [List.size_toArray, lenV]; exact hl, by simpa using rv⟩) (fun b u z => by have z' : (none : Option HO) = some u := z; cases z') (fun b z => absurd rfl z) fun z => absurd rfl z
  | none =>
    refine core (fun b => if b = a then some (.frz { cls := .type "list", data := .seq vs.toArray } (.lst (ns.map V.int))) else none) (fun b => ?_) (.inl (.inr ⟨{ cls := .type "list", data := .seq vs.toArray }, if_pos rfl⟩)) (fun b u z => ?_) (fun b z => ?_) fun _ => hk
    · by_cases hb : b = a
      · exact .inr ⟨_, _, if_pos hb⟩
      · exact .inl (if_neg hb)
    · by_cases hb : b = a
      · have z' := (if_pos hb).symm.trans z
        cases z'
        subst hb
        exact ⟨ha, by rw [List.length_map]; exact hl, vs, _, rv, ha⟩
      · have z' := (if_neg hb).symm.trans z
        cases z'
    · by_cases hb : b = a
      · exact hb
      · exact absurd (if_neg hb) z
end L2

namespace L2
open PySem PySem.Spec PyProof.Rows

abbrev KOf {K : PySem.W.Frag} {h : Heap} (_ : K.In h) : PySem.W.Frag := K

/-- the goal that k_head leaves (case hc), from the law's promise. F gives the function object fd (K's own) once, then the promise over every base -/
theorem walk_of {l : PySem.W.OpenLaw} {n k : Nat} {q : Program} {loose : List Str} {XP : (Str → Option Value) → Heap → Prop} {YP : World → Heap → Prop} {d : DefRec} {K : Params → PySem.W.Frag} {CX : World → CXT} {sp : World → Sp} {x : Str}
    (hn : l.most = some n) (hn2 : n ≤ sizeLine) (hdf : d.params.defaults = []) (hr : Room k callerA)
    (hY : ∀ (w : World) (h : Heap), YP w h → (K w.params).In h)
    (F : ∀ (w : World) (mg : Str → Option Value) (fa : Addr) (h : Heap), (K w.params).In h → h.Ns mainGlobals mg → mg d.name = some (.ref fa) →
      ∃ fd : FuncData, (∀ (s : Shared) (u : Value), BindsTo s fd ⟨[u], []⟩ [(x, u)]) ∧
        ∀ base : Heap, (K w.params).In base → base.Ns mainGlobals mg → FnOk l.prog w (K w.params) mg base (CX w) k fa fd [x] (sp w))
    (hsp : ∀ (w : World) (H : Hp) (a : Addr) (ns : List Int), ns.length ≤ n → Only H → SqL (K w.params) H a (ns.map V.int) → sp w [.ref a] H (fun v _ => v = .bl true) fun _ _ _ => False)
    (hCX : ∀ (w : World) (H : Hp) (s : Shared) (e : Value) (s' : Shared), CX w [] H s (fun _ _ _ => False) e s' → False) :
    PySem.W.WalkO q loose XP YP l.row.toRowW d [] (fun f vs => PySem.call f vs) := by
  refine Att.attach_call hn hdf fun w s₀ s₁ mg mb fa o pm cd doc a vs ns G Y ho hd hcd hmg hobj hints hlen hg => ?_
  have KX := hY w _ Y
  obtain ⟨fd, hb, hF⟩ := F w mg fa _ KX G.T.g hmg
  exact law_call KX G.T.g G.T.b G.T.builtins G.T.nolimit hg hobj hints (Nat.le_trans hlen hn2) hr hF hb (fun H hO hS => hsp w H a ns hlen hO hS) fun H e s' => hCX w H s₁ e s'
/-- the same where the promise hangs on the written part alone: (sp := My.sp_law), no hole under a binder -/
theorem walk_ofK {l : PySem.W.OpenLaw} {n k : Nat} {q : Program} {loose : List Str} {XP : (Str → Option Value) → Heap → Prop} {YP : World → Heap → Prop} {d : DefRec} {K : Params → PySem.W.Frag} {CX : CXT} {sp : PySem.W.Frag → Sp} {x : Str}
    (hn : l.most = some n) (hn2 : n ≤ sizeLine) (hdf : d.params.defaults = []) (hr : Room k callerA)
    (hY : ∀ (w : World) (h : Heap), YP w h → (K w.params).In h)
    (F : ∀ (w : World) (mg : Str → Option Value) (fa : Addr) (h : Heap), (K w.params).In h → h.Ns mainGlobals mg → mg d.name = some (.ref fa) →
      ∃ fd : FuncData, (∀ (s : Shared) (u : Value), BindsTo s fd ⟨[u], []⟩ [(x, u)]) ∧
        ∀ base : Heap, (K w.params).In base → base.Ns mainGlobals mg → FnOk l.prog w (K w.params) mg base CX k fa fd [x] (sp (K w.params)))
    (hsp : ∀ (K : PySem.W.Frag) (H : Hp) (a : Addr) (ns : List Int), ns.length ≤ n → Only H → SqL K H a (ns.map V.int) → sp K [.ref a] H (fun v _ => v = .bl true) fun _ _ _ => False)
    (hCX : ∀ (H : Hp) (s : Shared) (e : Value) (s' : Shared), CX [] H s (fun _ _ _ => False) e s' → False) :
    PySem.W.WalkO q loose XP YP l.row.toRowW d [] (fun f vs => PySem.call f vs) :=
  walk_of (K := K) (CX := fun _ => CX) (sp := fun w => sp (K w.params)) hn hn2 hdf hr hY F (fun w H a ns h1 h2 h3 => hsp (K w.params) H a ns h1 h2 h3) fun _ H s e s' => hCX H s e s'
end L2

/- THE LAST THEOREM (shape; LID, My.* are yours):
   My.Adr: a structure of the addresses that your layer names (classes, functions); My.Txt K t: a structure (Prop) of the equations over K;
   My.txt_mk : {K} {implicit addresses ..} (e1 : nsIn K mainGlobals "law" = some (some (.ref f))) (e2 : K.lookup f = some ⟨oc, od, .func (fnOf "law" "law" params body scope dV kV doc pm an cdv ct), sl⟩) (e3 : codeIn K cdv "law" = true) .. : ∃ t, My.Txt K t

set_option maxRecDepth 100000 in
set_option maxHeartbeats 0 in
theorem PySem.Challenge.cw_LID_holds : PySem.Challenge.rw_LID.Holds := by
  w_on; o_law; k_head; (case hw => w_witness2)
  k_fill
  refine L2.walk_of (l := PySem.Challenge.rw_LID) (n := 63) (k := 40) (x := "script") (CX := fun w => ..) (sp := fun _ => My.sp_law) rfl (by decide) rfl ⟨rfl, by decide, by decide⟩ (fun w h Y => PySem.W.kIn_of Y) ?F ?S ?C
  case F =>
    intro w mg fa h KX G hmg
    have T : ∃ t, My.Txt (L2.KOf KX) t := by
      dsimp only [L2.KOf]                          -- K must stand as «<heap const> w.params» for k_is
      refine' My.txt_mk ?e1 ?e2 ?e3 ..
      (case e1 => PySem.W.k_is)                    -- in the order: a name -> its address -> its object -> its parts
      (case e2 => PySem.W.k_is)
      ..
    obtain ⟨t, T⟩ := T
    have e0 := hmg.symm.trans (PySem.W.mg_of KX G T.law)
    cases e0                                       -- fa is the law's own address
    exact ⟨_, fun s u => .of_eq rfl, fun base kb nb => My.law_fn T kb nb⟩     -- if «.of_eq rfl» comes too early: refine' ⟨_, ?b, fun base kb nb => My.law_fn T kb nb⟩; exact fun s u => .of_eq rfl
  case S => exact fun w H a ns hl hO hS => ..
  case C => exact ..
(the tactic k_is has no namespace: write k_is) -/

/-! SHORT WORDS over the layer: a def of the text, its body, what a loop and a test want. -/
namespace L2
open PySem PySem.Spec PyProof.Rows

/-! ### the text by places -/
/-- the j-th statement of a class's body -/
def inClass (s : Stmt) (j : Nat) : Stmt := match s with
  | .ClassDef _ _ _ body _ _ _ _ _ _ _ => body.getD j (.Pass ⟨0, 0, 0, 0⟩)
  | _ => .Pass ⟨0, 0, 0, 0⟩
def defArgs (s : Stmt) : Arguments := match s with
  | .FunctionDef _ a _ _ _ _ _ _ _ _ => a
  | _ => { posonlyargs := [], args := [], vararg := none, kwonlyargs := [], kw_defaults := [], kwarg := none, defaults := [] }
def defBody (s : Stmt) : List Stmt := match s with
  | .FunctionDef _ _ b _ _ _ _ _ _ _ => b
  | _ => []
def defScope (s : Stmt) : Scope := match s with
  | .FunctionDef _ _ _ _ _ _ sc _ _ _ => sc
  | _ => { kind := .function, names := [], isGenerator := false, isCoroutine := false }

/-! ### no exception leaves a def -/
abbrev CX0 : CXT := fun _ _ _ _ _ _ => False
abbrev E0 : XK := fun _ _ _ => False
theorem pass0 {X : Cx} : Passes CX0 X E0 := fun _ _ _ _ _ _ _ h => h.elim

/-! ### a def (or method) of the text as it stands behind the top -/
structure Fun (K : PySem.W.Frag) (x qual : Str) (st : Stmt) (f : Addr) (fd : FuncData) : Prop where
  ex : ∃ (oc : Value) (od : Option Addr) (kV doc pm : Value) (an : Option Addr) (cdv ct : Value) (osl : Array (Option Value)),
    fd = PySem.W.fnOf x qual (defArgs st) (defBody st) (defScope st) .none kV doc pm an cdv ct ∧ K.lookup f = some ⟨oc, od, .func fd, osl⟩ ∧ PySem.W.codeIn K cdv qual = true
  kp : PySem.W.keepIn K (.ref f) = true
section
variable {P : Program} {w : World} {K : PySem.W.Frag} {mg : Str → Option Value} {base : Heap}
/-- THE RULE for a def: its body as a term of rules, and the reading of that term -/
theorem Fun.ok {x qual : Str} {st : Stmt} {f : Addr} {fd : FuncData} {N ps : List Str} {k : Nat} {sp : Sp} (F : Fun K x qual st f fd) (S : FnScope N ps (defScope st)) (len : ∀ vs H Q E, sp vs H Q E → vs.length = ps.length)
    (hbody : ∀ (cdv : Value) (A : Around) (outer : List Env) (s : Shared) (H : Hp) (vs : List V) (Q : VK) (E : XK), Room k (A.deeper (envOfC qual (defScope st) s.heap.objs.size f cdv)) → sp vs H Q E →
      ∃ t, PSs (cxOf CX0 P w K mg base N qual (defScope st) f cdv A outer s H E).nox (defBody st) t ∧ t { nx := fun _ H' => Q .non H', rt := Q } (start N vs) H) : FnOk P w K mg base CX0 (k + 1) f fd ps sp := by
  obtain ⟨oc, od, kV, doc, pm, an, cdv, ct, osl, rfl, lk, hcd⟩ := F.ex
  refine fn_of lk hcd S len fun A outer s H vs Q E hr hsp => ?_
  obtain ⟨t, h, q⟩ := hbody cdv A outer s H vs Q E hr hsp
  exact ⟨t, h.nox, q⟩
/-- how its arguments bind (no defaults): h is «fun _ _ _ _ _ _ us hl => match us, hl with | [_, _], _ => rfl», one _ a parameter -/
theorem Fun.binds {x qual : Str} {st : Stmt} {f : Addr} {fd : FuncData} {ps : List Str} (F : Fun K x qual st f fd)
    (h : ∀ (kV doc pm : Value) (an : Option Addr) (cdv ct : Value) (us : List Value), us.length = ps.length → bindArgs (PySem.W.fnOf x qual (defArgs st) (defBody st) (defScope st) .none kV doc pm an cdv ct) ⟨us, []⟩ = pure (ps.zip us)) : Binds K fd ps [] := by
  obtain ⟨oc, od, kV, doc, pm, an, cdv, ct, osl, rfl, lk, hcd⟩ := F.ex
  exact .all (h kV doc pm an cdv ct)
theorem fun_mk {x qual : Str} {st : Stmt} {f : Addr} {oc : Value} {od an : Option Addr} {osl : Array (Option Value)} {kV doc pm cdv ct : Value} (l : K.lookup f = some ⟨oc, od, .func (PySem.W.fnOf x qual (defArgs st) (defBody st) (defScope st) .none kV doc pm an cdv ct), osl⟩)
    (c : PySem.W.codeIn K cdv qual = true) (k : PySem.W.keepIn K (.ref f) = true) : Fun K x qual st f (PySem.W.fnOf x qual (defArgs st) (defBody st) (defScope st) .none kV doc pm an cdv ct) := ⟨⟨oc, od, kV, doc, pm, an, cdv, ct, osl, rfl, l, c⟩, k⟩
end
theorem hu_of {A : Around} {k : Nat} (hr : Room k A) : A.units + 1 < cLine := Nat.lt_of_le_of_lt (Nat.add_le_add_left (by decide : 1 ≤ 64) _) hr.units
theorem small1000 {n : Nat} (h : n ≤ 1000) : n < sizeLine := Nat.lt_of_le_of_lt h (by decide)

/-! ### expressions in short: the name that stands in the i-th slot -/
section
variable {X : Cx}
theorem pv (i : Nat) {x : Str} {pos : Pos} (hN : X.N[i]? = some x := by rfl) (hv : Vis X.env.scope x := by first | exact Or.inl rfl | exact Or.inr (Or.inl rfl) | exact Or.inr (Or.inr rfl)) (hd : (x == ("__debug__" : Str)) = false := by decide)
    (hcd : (x == ("__classdict__" : Str)) = false := by decide) : PE X (.Name x pos) (tVar i) := pe_var hN hv hd hcd
end

/-! ### tests -/
theorem iteF {A B : Prop} (h : B) : if false = true then A else B := by
  rw [if_neg Bool.false_ne_true]
  exact h
theorem iteT {A B : Prop} (h : A) : if true = true then A else B := by
  rw [if_pos rfl]
  exact h

/-! ### heaps -/
/-- all that was tracked is as it was -/
def Same (H H' : Hp) : Prop := ∀ b o, H b = some o → H' b = some o
theorem Same.refl (H : Hp) : Same H H := fun _ _ h => h
theorem Same.trans {H H1 H2 : Hp} (a : Same H H1) (b : Same H1 H2) : Same H H2 := fun c o h => b c o (a c o h)
theorem Same.free {H H' : Hp} (e : Same H H') {l : Addr} (h : H' l = Option.none) : H l = Option.none := by
  cases q : H l with
  | none => rfl
  | some o =>
    rw [e l o q] at h
    cases h
theorem Same.seq {K : PySem.W.Frag} {H H' : Hp} {a : Addr} {xs : List V} (e : Same H H') (h : SqL K H a xs) : SqL K H' a xs := by
  rcases h with (h | ⟨o, h⟩) | h
  · exact .inl (.inl (e _ _ h))
  · exact .inl (.inr ⟨o, e _ _ h⟩)
  · exact .inr h

/-! ### a dict's pairs: keys that differ -/
section
variable {κ : Type} [DecidableEq κ]
theorem nd_snoc : ∀ {l : List κ} {k : κ}, l.Nodup → ¬ k ∈ l → (l ++ [k]).Nodup
  | [], k, _, _ => by simp
  | a :: r, k, h, hk => by
    obtain ⟨h1, h2⟩ := List.nodup_cons.mp h
    show (a :: (r ++ [k])).Nodup
    refine List.nodup_cons.mpr ⟨fun m => ?_, nd_snoc h2 fun m => hk (List.mem_cons.mpr (Or.inr m))⟩
    rcases List.mem_append.mp m with q | q
    · exact h1 q
    · exact hk (List.mem_cons.mpr (Or.inl (List.mem_singleton.mp q).symm))
end
end L2

set_option Elab.async false
set_option linter.all false
set_option maxRecDepth 100000
/-! COMPREHENSIONS over the hand layer (own work) -/
namespace L2
open PySem PySem.Spec PyProof.Rows

/-- the context of a comprehension's block -/
def Cx.inC (X : Cx) (sc : Scope) (cl : List (Str × Addr)) (C : Addr) (N' : List Str) (ex : List Addr) (s : Shared) (H : Hp) : Cx where
  prog := X.prog
  w := X.w
  K := X.K
  mg := X.mg
  base := X.base
  A := X.A
  N := N'
  s₀ := s
  H₀ := H
  env := compEnvC sc cl C X.env
  outer := X.stack
  stack := X.stack
  ex := ex
  fn := fun _ => false
  calm := X.calm
  pn := []
  xe := fun _ _ => False

theorem closure_go (env : Env) : ∀ (names : List (Str × NameKind)) (cs : List (Str × Addr)), (∀ x, (x, NameKind.free) ∈ names → ∃ c, env.cells.lookup x = some c) →
    (∀ x c, cs.lookup x = some c → env.cells.lookup x = some c) →
    ∃ cl : List (Str × Addr), (forIn names cs fun (p : Str × NameKind) (r : List (Str × Addr)) => if (p.2 == NameKind.free) = true then do let c ← cellOf env p.1; pure (ForInStep.yield ((p.1, c) :: r)) else pure (ForInStep.yield r) : Sem _) = pure cl ∧
      (∀ x c, cl.lookup x = some c → env.cells.lookup x = some c) ∧ (∀ x, (x, NameKind.free) ∈ names → ∃ c, cl.lookup x = some c) ∧ (∀ x c, cs.lookup x = some c → ∃ c', cl.lookup x = some c')
  | [], cs, _, h => ⟨cs, by simp only [List.forIn_nil], h, fun x hx => absurd hx (by simp), fun x c e => ⟨c, e⟩⟩
  | (n, k) :: r, cs, hf, h => by
    by_cases hk : k = NameKind.free
    · subst hk
      obtain ⟨c, hc⟩ := hf n List.mem_cons_self
      have hco : cellOf env n = pure c := by unfold cellOf; rw [hc]
      obtain ⟨cl, e, h1, h2, h3⟩ := closure_go env r ((n, c) :: cs) (fun x hx => hf x (List.mem_cons_of_mem _ hx)) (fun x c' e => by
        rw [List.lookup_cons] at e
        cases hx : x == n with
        | true => rw [hx] at e; cases e; rw [beq_iff_eq.mp hx]; exact hc
        | false => rw [hx] at e; exact h x c' e)
      refine ⟨cl, ?_, h1, fun x hx => ?_, fun x c' e' => ?_⟩
      · rw [List.forIn_cons]
        simp only [hco, beq_self_eq_true, if_true, pure_bind]
        exact e
      · rcases List.mem_cons.mp hx with z | z
        · cases z
          exact h3 n c (by rw [List.lookup_cons, beq_self_eq_true])
        · exact h2 x z
      · refine h3 x (if x == n then c else c') ?_
        rw [List.lookup_cons]
        cases hx : x == n with
        | true => simp
        | false => simpa using e'
    · obtain ⟨cl, e, h1, h2, h3⟩ := closure_go env r cs (fun x hx => hf x (List.mem_cons_of_mem _ hx)) h
      refine ⟨cl, ?_, h1, fun x hx => ?_, h3⟩
      · rw [List.forIn_cons]
        have hb : (k == NameKind.free) = false := by simpa using hk
        simp only [hb, Bool.false_eq_true, if_false, pure_bind]
        exact e
      · rcases List.mem_cons.mp hx with z | z
        · cases z; exact absurd rfl hk
        · exact h2 x z

theorem closure_ok {sc : Scope} {env : Env} (hf : ∀ x, (x, NameKind.free) ∈ sc.names → ∃ c, env.cells.lookup x = some c) :
    ∃ cl : List (Str × Addr), closureFor sc env = pure cl ∧ (∀ x c, cl.lookup x = some c → env.cells.lookup x = some c) ∧ (∀ x, (x, NameKind.free) ∈ sc.names → ∃ c, cl.lookup x = some c) := by
  obtain ⟨cl, e, h1, h2, _⟩ := closure_go env sc.names [] hf (fun x c e => by cases e)
  refine ⟨cl, ?_, h1, h2⟩
  unfold closureFor
  simp only [bind_pure]
  exact e

/-- the tests of a clause -/
def PIf (X : Cx) (ifs : List Expr) (t : TT) : Prop :=
  ∀ (pins : List (Addr × Obj)) (s : Shared) (σ : St) (H : Hp) (Q : Bool → Hp → Prop), Inv X pins σ H s → t σ H Q →
    wpAny (model X.prog X.w) X.A (forIn ifs true fun c r => if r = true then do let ok ← isTrue c X.env (eval c X.env); pure (ForInStep.yield ok) else pure (ForInStep.yield r)) (TP X pins σ Q) X.xe s
def tYes : TT := fun _ H Q => Q true H
theorem pif_nil {X : Cx} : PIf X [] tYes := fun _ _ _ H _ I h => wpAny_tests_nil ⟨H, I, h⟩
theorem pif_one {X : Cx} {c : Expr} {t : TT} (h : PT X c t) : PIf X [c] t := fun pins s σ H Q I hw => wpAny_tests_one (h pins s σ H Q I hw)

/-- the slots of a block: its own names, then the captured ones -/
def σC (n : Nat) (cap : List Nat) (σ : St) : St := List.replicate n none ++ cap.map fun j => (σ[j]?).join
def NC (X : Cx) (own : List Str) (cap : List Nat) : List Str := own ++ cap.map fun j => X.N.getD j Str.empty
/-- what is captured -/
def Caps (X : Cx) (sc : Scope) : List Nat → Prop
  | [] => True
  | j :: r => (∃ x, X.N[j]? = some x ∧ sc.names.lookup x = some .free ∧ (X.env.kindOf x = some .cell ∨ X.env.kindOf x = some .free)) ∧ Caps X sc r
theorem Caps.mem {X : Cx} {sc : Scope} : ∀ {cap : List Nat} {j : Nat}, Caps X sc cap → j ∈ cap → ∃ x, X.N[j]? = some x ∧ sc.names.lookup x = some .free ∧ (X.env.kindOf x = some .cell ∨ X.env.kindOf x = some .free)
  | [], _, _, h => absurd h (by simp)
  | _ :: _, _, c, h => (List.mem_cons.mp h).elim (fun e => e ▸ c.1) fun h' => c.2.mem h'

theorem lookup_mem {α β : Type} [BEq α] [LawfulBEq α] : ∀ {l : List (α × β)} {x : α} {b : β}, l.lookup x = some b → (x, b) ∈ l
  | [], _, _, h => by cases h
  | (y, c) :: r, x, b, h => by
    rw [List.lookup_cons] at h
    cases e : x == y with
    | true => rw [e] at h; cases h; rw [beq_iff_eq.mp e]; exact List.mem_cons_self
    | false => rw [e] at h; exact List.mem_cons_of_mem _ (lookup_mem h)

theorem lookup_mapk (f : Str × NameKind → Str × NameKind) (hf : ∀ p, (f p).1 = p.1) (x : Str) : ∀ (names : List (Str × NameKind)), (names.map f).lookup x = (names.lookup x).map fun k => (f (x, k)).2
  | [] => rfl
  | (n, k) :: r => by
    have ih := lookup_mapk f hf x r
    rw [List.map_cons, List.lookup_cons]
    obtain ⟨a, b, e⟩ : ∃ a b, f (n, k) = (a, b) := ⟨_, _, rfl⟩
    have ea : a = n := by have := hf (n, k); rw [e] at this; exact this
    subst ea
    rw [e, List.lookup_cons]
    cases hx : x == a with
    | true =>
      have hx' := beq_iff_eq.mp hx
      subst hx'
      simp [e]
    | false => simpa using ih
/-- relabelled names: of a free one cell or free; no others become so -/
theorem relabel_lookup {env : Env} {sc : Scope} {x : Str} {k : NameKind} (h : (relabel sc env).names.lookup x = some k) : (sc.names.lookup x = some k) ∨ (k = .cell ∧ sc.names.lookup x = some .free) := by
  unfold relabel at h
  rw [lookup_mapk _ (fun p => by obtain ⟨n, k⟩ := p; dsimp only; split <;> rfl)] at h
  cases e : sc.names.lookup x with
  | none => rw [e] at h; cases h
  | some k0 =>
    rw [e] at h
    simp only [Option.map_some, Option.some.injEq] at h
    split at h
    · rename_i hc
      simp at hc
      right
      exact ⟨h.symm, by rw [hc.1.1]⟩
    · left; exact congrArg some h
theorem relabel_free {env : Env} {sc : Scope} {x : Str} (h : sc.names.lookup x = some .free) : (relabel sc env).names.lookup x = some .cell ∨ (relabel sc env).names.lookup x = some .free := by
  unfold relabel
  rw [lookup_mapk _ (fun p => by obtain ⟨n, k⟩ := p; dsimp only; split <;> rfl), h]
  simp only [Option.map_some]
  split
  · exact .inl rfl
  · exact .inr rfl

section
variable {prog : Program} {w : World} {A : Around} {R : Result → Shared → Prop} {s : Shared}
/-- the loop, a target of any kind, no exception -/
theorem comp_loop {elt target iter : Expr} {ifs : List Expr} {scope : Scope} {pos : Pos} {it acc : Value} {env : Env} (I : Nat → Shared → Prop)
    (turn : ∀ n s, I n s → wpAny (model prog w) A (pyNext it) (fun r s₁ => match r with
      | none => R (.ok .next) s₁
      | some v => wpAny (model prog w) A (letOwnedTupleGo target it v) (fun _ s₀ => wpAny (model prog w) A (assign target env v) (fun _ s₂ =>
          wpAny (model prog w) A (forIn ifs true fun c r => if r = true then do let ok ← isTrue c env (eval c env); pure (ForInStep.yield ok) else pure (ForInStep.yield r)) (fun ok s₃ =>
            if ok = true then wpAny (model prog w) A (eval elt env) (fun x s₄ =>
              wpAny (model prog w) A (call (.builtin "list.append") [acc, x]) (fun _ s₅ => ∃ m, m < n ∧ I m s₅) (fun _ _ => False) s₄) (fun _ _ => False) s₃
            else ∃ m, m < n ∧ I m s₃) (fun _ _ => False) s₂) (fun _ _ => False) s₀) (fun _ _ => False) s₁) (fun _ _ => False) s)
    (n : Nat) (h : I n s) :
    codeAny (model prog w) A (.compLoop (.ListComp elt [⟨target, iter, ifs, 0⟩] scope pos) 0 it acc env) R s := by
  refine codeAny_loop rfl I (fun n s hI => ?_) n h
  show wpAny _ A ((compTurn (.ListComp elt [⟨target, iter, ifs, 0⟩] scope pos) 0 it acc env).onRaise (fun x => do noteFrame x env; theTreesLotGoes x)) _ _ s
  refine wpAny_noted ?_
  rw [compTurn_list]
  refine wpAny_bind (wpAny_standAt (wpAny_bind (wpAny_mono (turn n s hI) (fun r s₁ h₁ => ?_) fun _ _ h' => h'.elim)))
  cases r with
  | none => exact wpAny_pure h₁
  | some v =>
    refine wpAny_bind (wpAny_mono h₁ (fun _ s₀ h₀ => ?_) fun _ _ h' => h'.elim)
    refine wpAny_bind (wpAny_mono h₀ (fun _ s₂ h₂ => wpAny_bind (wpAny_mono h₂ (fun ok s₃ h₃ => ?_) fun _ _ h' => h'.elim)) fun _ _ h' => h'.elim)
    cases ok with
    | false => exact wpAny_pure ⟨rfl, h₃⟩
    | true =>
      exact wpAny_bind (wpAny_bind (wpAny_mono h₃ (fun x s₄ h₄ => wpAny_bind (wpAny_mono h₄ (fun _ s₅ h₅ => wpAny_pure (wpAny_pure ⟨rfl, h₅⟩)) fun _ _ h' => h'.elim)) fun _ _ h' => h'.elim))
end
end L2

set_option Elab.async false
set_option linter.all false
set_option maxRecDepth 100000
namespace L2
open PySem PySem.Spec PyProof.Rows

/-- a comprehension's condition, from its iterator on -/
def CompVC (J : It) (g : TG) (tt : TT) (te : TE) (σ' : St) (Post : VK) (H1 : Hp) : Prop := ∃ W : Nat → Nat → List V → Hp → Prop, (∃ m, W 0 m [] H1) ∧ ∀ i m ys H, W i m ys H → ys.length < sizeLine ∧
   ((J.stop i H ∧ ∀ p, H p = none → Post (.ref p) (upd H p (.lst ys))) ∨
    (J.go i H ∧ ∀ x H', J.yld i H x H' → g x σ' H' fun σ2 H2 => tt σ2 H2 fun b H3 => if b = true then te σ2 H3 fun y H4 => ∃ m', m' < m ∧ W (i + 1) m' (ys ++ [y]) H4 else ∃ m', m' < m ∧ W (i + 1) m' ys H3))
def tComp (n : Nat) (cap : List Nat) (wi : TI) (g : TG) (tt : TT) (te : TE) : TE := fun σ H Q => wi σ H fun J H1 => CompVC J g tt te (σC n cap σ) Q H1

theorem notfp {h : Heap} {b : Addr} {n : Nat} (e : n ≤ b) {o : Obj} (q : h.get? b = some o) (hn : h.objs.size ≤ n) : False := absurd (Nat.lt_of_lt_of_le (Heap.lt_size q) (Nat.le_trans hn e)) (Nat.lt_irrefl _)

section
variable {X : Cx} {pins : List (Addr × Obj)} {σ : St} {H2 : Hp} {s2 : Shared} {sc : Scope} {cl : List (Str × Addr)} {own : List Str} {cap : List Nat} {fp : List Addr}
/-- the block's context is well made -/
theorem Inv.inC {h₁ : Heap} {tk : Nat} {C : Addr} (I : Inv X pins σ H2 s2) (hkind : sc.kind = .function) (hcl1 : ∀ x c, cl.lookup x = some c → X.env.cells.lookup x = some c) (hcl2 : ∀ x, (x, NameKind.free) ∈ sc.names → ∃ c, cl.lookup x = some c)
    (hcell : ∀ y ∈ sc.names, y.2 ≠ .cell) (hcap : Caps X sc cap) (hC : s2.heap.objs.size ≤ C) (hfp : ∀ b ∈ fp, FpOk X pins H2 b) (hfo : ∀ b ∈ fp, ∃ o, s2.heap.get? b = some o) {m : Str → Option Value} (hns : h₁.Ns C m)
    (old : ∀ b o, s2.heap.get? b = some o → h₁.get? b = some o) : Inv (X.inC sc cl C (NC X own cap) fp s2 H2) [] (σC own.length cap σ) H2 { s2 with heap := h₁, toks := tk } := by
  have hlt : ∀ {b : Addr} {o : Obj}, s2.heap.get? b = some o → b ≠ C := fun e => Nat.ne_of_lt (Nat.lt_of_lt_of_le (Heap.lt_size e) hC)
  have mem : ∀ {x : Str} {k : NameKind}, sc.names.lookup x = some k → (x, k) ∈ sc.names := fun e => lookup_mem e
  refine ⟨⟨I.ok.mod, hkind, I.ok.glob, I.ok.blt, hC, fun x y c a b => I.ok.inj x y c (hcl1 x c a) (hcl1 y c b), fun x hx => ?_, fun x c h => (by cases h), I.ok.hd, I.ok.frames, .inl rfl, fun b hb => ⟨?_, fun x c e => ?_⟩, I.bs, Nat.le_trans I.ok.bsz I.sz, fun b o e hb => ?_, fun b hb => ?_, I.stack, I.stkFree⟩,
    rfl, I.bare, Un.kept old, ⟨m, hns, fun i x v e1 e2 e3 => ?_⟩, fun x c e => ?_, I.hok.fresh hC, fun x c e => I.freeC x c (hcl1 x c e), fun p hp => absurd (show p ∈ ([] : List (Addr × Obj)) from hp) (by simp), I.hok.kept old, ?_⟩
  · have hx : (relabel sc X.env).names.lookup x = some .cell ∨ (relabel sc X.env).names.lookup x = some .free := hx
    refine hcl2 x ?_
    rcases hx with hx | hx
    · rcases relabel_lookup hx with q | ⟨_, q⟩
      · exact absurd rfl (hcell _ (mem q))
      · exact mem q
    · rcases relabel_lookup hx with q | ⟨q, _⟩
      · exact mem q
      · cases q
  · obtain ⟨o, e⟩ := hfo b hb
    exact hlt e
  · exact (hfp b hb).2.2.2.2.1 x c (hcl1 x c e)
  · obtain ⟨_, _, _, h4, _⟩ := hfp b hb
    rcases h4 with h4 | h4
    · exact I.ok.noex b o e h4
    · exact notfp h4 e (I.ok.bsz)
  · show b ∉ frs X.stack
    intro z
    rcases List.mem_cons.mp (I.stkSub b z) with q | q
    · exact (hfp b hb).2.1 q
    · exact (hfp b hb).2.2.1 q
  · have e1 : (NC X own cap)[i]? = some x := e1
    unfold σC at e2
    unfold NC at e1
    by_cases hi : i < own.length
    · rw [List.getElem?_append_left (by simpa using hi), List.getElem?_replicate] at e2
      split at e2 <;> cases e2
    · rw [List.getElem?_append_right (by simpa using hi), List.length_replicate, List.getElem?_map] at e2
      rw [List.getElem?_append_right (by simpa using hi), List.getElem?_map] at e1
      cases ej : cap[i - own.length]? with
      | none => rw [ej] at e2; cases e2
      | some j =>
        rw [ej] at e1 e2
        simp only [Option.map_some, Option.some.injEq] at e1 e2
        obtain ⟨y, hy, hfr, hk⟩ := hcap.mem (List.mem_of_getElem? ej)
        have exy : x = y := by rw [← e1, List.getD_eq_getElem?_getD, hy]; rfl
        subst exy
        have e2' : σ[j]? = some (some v) := by
          cases q : σ[j]? with
          | none => rw [q] at e2; cases e2
          | some o => rw [q] at e2; exact congrArg some e2
        have hvis : Vis X.env.scope x := by
          rcases hk with hk | hk
          · exact .inr (.inl hk)
          · exact .inr (.inr hk)
        obtain ⟨m0, hn0, hl0⟩ := I.loc
        obtain ⟨u, r, l⟩ := hl0 j x v hy e2' hvis
        refine ⟨u, r, .inr ⟨relabel_free hfr, ?_⟩⟩
        rcases l with ⟨q, _⟩ | ⟨_, c, ec, z⟩
        · rcases hk with hk | hk <;> (rw [hk] at q; cases q)
        · obtain ⟨c', ec'⟩ := hcl2 x (mem hfr)
          have : c' = c := by have := hcl1 x c' ec'; rw [ec] at this; exact (Option.some.inj this).symm
          subst this
          obtain ⟨oc, hoc, hd⟩ := z
          exact ⟨c', ec', oc, old c' oc hoc, hd⟩
  · obtain ⟨v, oc, hoc, hd⟩ := I.cell x c (hcl1 x c e)
    exact ⟨v, oc, old c oc hoc, hd⟩
  · unfold σC NC Cx.inC
    simp

/-- back from the block -/
theorem Inv.outC {s' : Shared} {H3 : Hp} {C D : Addr} {N' : List Str} {σ' : St} {pins' : List (Addr × Obj)} {ys : List V} {its : List Value} {n : Nat} (I : Inv X pins σ H2 s2) (hfp : ∀ b ∈ fp, FpOk X pins H2 b) (hD : s2.heap.objs.size ≤ D)
    (I4 : Inv (X.inC sc cl C N' fp s2 H2) pins' σ' H3 s') (hl : s'.heap.get? D = some { cls := .type "list", data := .seq its.toArray n }) (hv : Vals ys its) (hz : ys.length ≤ sizeLine) (hn : H3 D = none) : Inv X pins σ (upd H3 D (.lst ys)) s' := by
  have ltD : ∀ {b : Addr} {o : Obj}, s2.heap.get? b = some o → b ≠ D := fun e => Nat.ne_of_lt (Nat.lt_of_lt_of_le (Heap.lt_size e) hD)
  have B : Un (frs X.stack) fp H2 H3 s2.heap s'.heap := I4.base
  have ne : ∀ {b : Addr} {o : HO}, H3 b = some o → b ≠ D := fun e z => by rw [z, hn] at e; cases e
  refine I.call' (ch := fp) I4.os ⟨B.keep, B.slot, fun b o e h0 hx => ?_, B.there, fun b xs e => ?_, fun b o u e => ?_, fun b ps e => ?_⟩ (fun b u e => ?_) I4.bare (fun b hb => ?_)
  · rw [upd_ne (ltD e)]; exact B.free b o e h0 hx
  · have := B.tups b xs e; rw [upd_ne (ne this)]; exact this
  · have := B.frzs b o u e; rw [upd_ne (ne this)]; exact this
  · obtain ⟨more, this⟩ := B.tbls b ps e
    exact ⟨more, by rw [upd_ne (ne this)]; exact this⟩
  · by_cases hb : b = D
    · subst hb
      rw [upd_same] at e
      cases e
      exact ⟨hz, its, n, hv, hl⟩
    · rw [upd_ne hb] at e
      exact (I4.hok b u e).stay (fun _ _ _ q => q) (fun c q => by rw [upd_ne (ne q)]; exact q) (fun c xs q => by rw [upd_ne (ne q)]; exact q)
  · obtain ⟨f0, f1, f2, f3, f4, f5⟩ := hfp b hb
    exact ⟨f3, f1, f4, f5⟩

/-- the rule's core: the loop from the iterator on -/
theorem comp_core {J : It} {it : Addr} {tn : Nat → Heap → Prop} {tg elt iter : Expr} {ifs : List Expr} {pos : Pos} {g : TG} {tt : TT} {te : TE} {RR : Value → Addr → Result → Shared → Prop} {Post : VK}
    (hc : X.calm = true) (I : Inv X pins σ H2 s2) (T : Turn X.prog X.w X.K tg J fp it tn) (st2 : tn 0 s2.heap) (f2 : ∀ b ∈ fp, FpOk X pins H2 b)
    (hkind : sc.kind = .function) (hcl1 : ∀ x c, cl.lookup x = some c → X.env.cells.lookup x = some c) (hcl2 : ∀ x, (x, NameKind.free) ∈ sc.names → ∃ c, cl.lookup x = some c) (hcell : ∀ y ∈ sc.names, y.2 ≠ .cell) (hcap : Caps X sc cap)
    (hg : ∀ cl C fp s H, PG (X.inC sc cl C (NC X own cap) fp s H) tg g) (ht : ∀ cl C fp s H, PIf (X.inC sc cl C (NC X own cap) fp s H) ifs tt) (he : ∀ cl C fp s H, PE (X.inC sc cl C (NC X own cap) fp s H) elt te)
    (hw : ∃ W : Nat → Nat → List V → Hp → Prop, (∃ m, W 0 m [] H2) ∧ ∀ i m ys H, W i m ys H → ys.length < sizeLine ∧
      ((J.stop i H ∧ ∀ p, H p = none → Post (.ref p) (upd H p (.lst ys))) ∨
      (J.go i H ∧ ∀ x H', J.yld i H x H' → g x (σC own.length cap σ) H' fun σ2 H2 => tt σ2 H2 fun b H3 => if b = true then te σ2 H3 fun y H4 => ∃ m', m' < m ∧ W (i + 1) m' (ys ++ [y]) H4 else ∃ m', m' < m ∧ W (i + 1) m' ys H3)))
    (hRR : ∀ (D C : Addr) (H' : Hp) (s' : Shared), Inv X pins σ H' s' → (∃ m, s'.heap.Ns C m) → FpOk X pins H' C → H' D ≠ none → Post (.ref D) H' → RR (.ref D) C (.ok .next) s') {E : Value → Shared → Prop} :
    wpAny (model X.prog X.w) X.A (newList []) (fun acc s₃ => wpAny (model X.prog X.w) X.A (newFunctionEnv sc X.env.globals cl [] X.env.qual none .none (some X.env)) (fun cenv s₄ =>
      codeAny (model X.prog X.w) X.A (.compStart (.ListComp elt [⟨tg, iter, ifs, 0⟩] sc pos) 0 (.ref it) acc { cenv with scope := relabel sc X.env }) (RR acc cenv.locals) s₄) E s₃) E s2 := by
  obtain ⟨W, ⟨m0, w0⟩, turn⟩ := hw
  refine wpAny_newObj_type (wpAny_newFunctionEnv hcell (by intro y hy; simp at hy) (fun h₁ hns₁ hsb₁ => ?_) hkind)
  dsimp only at hns₁ hsb₁ ⊢
  generalize hH : s2.heap.push { cls := .type "list", dict := none, data := .seq ([] : List Value).toArray } = HH at hns₁ hsb₁ ⊢
  have hC : HH.objs.size = s2.heap.objs.size + 1 := by rw [← hH, Heap.size_push]
  have hDC : s2.heap.objs.size ≠ HH.objs.size := by rw [hC]; exact Nat.ne_of_lt (Nat.lt_succ_self _)
  have hCle : s2.heap.objs.size ≤ HH.objs.size := by rw [hC]; exact Nat.le_succ _
  have old : ∀ b o, s2.heap.get? b = some o → h₁.get? b = some o := fun b o e => hsb₁.extBut b o (Nat.ne_of_lt (Nat.lt_of_lt_of_le (Heap.lt_size e) hCle)) (Heap.get?_push_of_some _ (hH ▸ Heap.get?_push_of_some _ e))
  have hacc : h₁.PlainList s2.heap.objs.size #[] := ⟨_, hsb₁.extBut _ _ hDC (Heap.get?_push_of_some _ (hH ▸ Heap.get?_push_size _ rfl))⟩
  have hfo : ∀ b ∈ fp, ∃ o, s2.heap.get? b = some o := fun b hb => let ⟨o, e, _⟩ := T.obj 0 s2.heap st2 b hb; ⟨o, e⟩
  have hst₁ : tn 0 h₁ := T.keep 0 _ _ st2 fun b _ o e => old b o e
  generalize hD : s2.heap.objs.size = D at hacc hDC hCle
  have hDle : s2.heap.objs.size ≤ D := Nat.le_of_eq hD
  have hCle2 : s2.heap.objs.size ≤ HH.objs.size := by rw [hD]; exact hCle
  -- the context
  let X' : Cx := X.inC sc cl HH.objs.size (NC X own cap) fp s2 H2
  have I₁ : Inv X' [] (σC own.length cap σ) H2 { s2 with heap := h₁, toks := s2.toks + ([] : List (Str × Value)).length } := I.inC hkind hcl1 hcl2 hcell hcap hCle2 f2 hfo hns₁ old
  have okX := I₁.ok
  have fpX : ∀ {H' : Hp} {pn : List (Addr × Obj)}, (∀ b ∈ fp, H' b = none) → (∀ p ∈ pn, p.1 = D) → ∀ b ∈ fp, FpOk X' pn H' b := fun {H' pn} hn hp b hb => by
    obtain ⟨o, e⟩ := hfo b hb
    refine ⟨hn b hb, (okX.exf b hb).1, okX.exfs b hb, .inl hb, (okX.exf b hb).2, fun p hq z => ?_⟩
    have hq : p ∈ pn := by
      rcases List.mem_append.mp hq with q | q
      · exact absurd (show p ∈ ([] : List (Addr × Obj)) from q) (by simp)
      · exact q
    rw [hp p hq] at z
    exact absurd (Nat.lt_of_lt_of_le (Heap.lt_size e) hDle) (by rw [← z]; exact Nat.lt_irrefl _)
  have pinD : ∀ {σ' : St} {H' : Hp} {s' : Shared} {oD : Obj}, Inv X' [] σ' H' s' → s'.heap.get? D = some oD → H' D = none → (∀ v, oD.data ≠ .cell v) → Inv X' [(D, oD)] σ' H' s' := fun {σ' H' s' oD} J e n d =>
    J.pins_of fun p hp => by
      have : p = (D, oD) := by simpa using hp
      subst this
      refine ⟨e, n, hDC, fun z => ?_, d⟩
      obtain ⟨_, o, ho, _⟩ := okX.funs.mem z
      exact notfp (Nat.le_refl D) ho hDle
  have loop : ∀ s₃ : Shared, s₃ = { s2 with heap := h₁, toks := s2.toks + ([] : List (Str × Value)).length } →
      codeAny (model X.prog X.w) X.A (.compLoop (.ListComp elt [⟨tg, iter, ifs, 0⟩] sc pos) 0 (.ref it) (.ref D) (compEnvC sc cl HH.objs.size X.env)) (RR (.ref D) HH.objs.size) s₃ := by
    rintro s₃ rfl
    refine comp_loop (fun n s' => ∃ i ys H' its nn, Inv X' [] (σC own.length cap σ) H' s' ∧ tn i s'.heap ∧ (∀ b ∈ fp, H' b = none) ∧ s'.heap.get? D = some { cls := .type "list", data := .seq (List.toArray its) nn } ∧ Vals ys its ∧ H' D = none ∧ W i n ys H') ?_ m0 ?_
    · rintro n s3 ⟨i, ys, H3, its, nn, I3, st3, fr3, hl3, hv3, hD3, w3⟩
      obtain ⟨hlen, tw⟩ := turn i n ys H3 w3
      have I3' := pinD I3 hl3 hD3 (fun v z => by cases z)
      have onlyD : ∀ p ∈ [(D, ({ cls := .type "list", data := .seq (List.toArray its) nn } : Obj))], p.1 = D := fun p hp => by simp at hp; rw [hp]
      rcases tw with ⟨stop, qn⟩ | ⟨go, step⟩
      · refine thn (T.done X' rfl rfl rfl hc i _ s3 _ H3 (fun _ _ => False) I3' (fpX fr3 onlyD) st3 stop) fun r s4 ⟨hr, I4⟩ => ?_
        subst hr
        have hl4 := (I4.pin (D, _) (List.mem_append_right _ List.mem_cons_self)).1
        have I5 := I.outC (fp := fp) f2 hDle I4 hl4 hv3 (Nat.le_of_lt hlen) hD3
        obtain ⟨m4, hn4, _⟩ := I4.loc
        refine hRR D HH.objs.size _ s4 I5 ⟨m4, hn4⟩ ?_ (by rw [upd_same]; simp) (qn D hD3)
        refine I.fpOk hCle2 ?_
        rw [upd_ne (Ne.symm hDC)]
        exact I4.free
      · refine thn (T.item X' rfl rfl rfl hc i _ s3 _ H3 (fun _ _ => False) I3' (fpX fr3 onlyD) st3 go) fun r s4 ⟨u, hr, h4⟩ => ?_
        subst hr
        refine thn h4 fun _ s5 ⟨x, H5, I5, r5, y5, st5, fr5⟩ => ?_
        have I5' := I5.pinned (fpX fr5 onlyD) (T.obj _ _ st5)
        refine thn (hg _ _ _ _ _ _ s5 _ H5 x u _ I5' r5 (step x H5 y5)) fun _ s6 ⟨σ6, H6, I6, q6⟩ => ?_
        refine thn (ht _ _ _ _ _ _ s6 σ6 H6 _ I6 q6) fun b s7 ⟨H7, I7, q7⟩ => ?_
        have back : ∀ {σ8 : St} {H8 : Hp} {s8 : Shared}, Inv X' ([(D, ({ cls := .type "list", data := .seq (List.toArray its) nn } : Obj))] ++ pinsAt fp s5.heap) σ8 H8 s8 →
            Inv X' [] (σC own.length cap σ) H8 s8 ∧ tn (i + 1) s8.heap ∧ (∀ b ∈ fp, H8 b = none) ∧ s8.heap.get? D = some { cls := .type "list", data := .seq (List.toArray its) nn } ∧ H8 D = none := fun {σ8 H8 s8} I8 => by
          have pD := I8.pin (D, _) (List.mem_append_right _ (List.mem_append_left _ List.mem_cons_self))
          refine ⟨?_, T.keep _ _ _ st5 fun b hb o e => (I8.pin (b, o) (List.mem_append_right _ (List.mem_append_right _ (mem_pinsAt hb e)))).1, fun b hb => ?_, pD.1, pD.2.1⟩
          · have I8' : Inv X' [] σ8 H8 s8 := I8.pins_of fun p hp => absurd hp (by simp)
            refine ⟨I8'.ok, I8'.os, I8'.bare, I8'.base, ?_, I8'.cell, I8'.free, I8'.freeC, I8'.pin, I8'.hok, I₁.len⟩
            -- the captured ones stand as at the entry: their cells are kept
            obtain ⟨m8, hn8, _⟩ := I8'.loc
            obtain ⟨m1, hn1, hl1⟩ := I₁.loc
            refine ⟨m8, hn8, fun i x v e1 e2 e3 => ?_⟩
            obtain ⟨u, ru, l⟩ := hl1 i x v e1 e2 e3
            refine ⟨u, ru, ?_⟩
            rcases l with ⟨k, e⟩ | ⟨k, c, ec, oc, hoc, hd⟩
            · exfalso
              have e1 : (NC X own cap)[i]? = some x := e1
              unfold σC at e2
              unfold NC at e1
              by_cases hi : i < own.length
              · rw [List.getElem?_append_left (by simpa using hi), List.getElem?_replicate] at e2
                split at e2 <;> cases e2
              · rw [List.getElem?_append_right (by simpa using hi), List.getElem?_map] at e1
                cases ej : cap[i - own.length]? with
                | none => rw [ej] at e1; cases e1
                | some j =>
                  rw [ej] at e1
                  simp only [Option.map_some, Option.some.injEq] at e1
                  obtain ⟨y, hy, hfr, hk⟩ := hcap.mem (List.mem_of_getElem? ej)
                  have exy : x = y := by rw [← e1, List.getD_eq_getElem?_getD, hy]; rfl
                  subst exy
                  have k : (relabel sc X.env).names.lookup x = some .local := k
                  rcases relabel_free (env := X.env) hfr with q | q <;> (rw [q] at k; cases k)
            · refine .inr ⟨k, c, ec, ?_⟩
              have ec2 := hcl1 x c ec
              have c0 : ∃ v, s2.heap.IsCell c v := I.cell x c ec2
              obtain ⟨v0, o0, ho0, hd0⟩ := c0
              have := old c o0 ho0
              rw [this] at hoc
              cases hoc
              have nfp : c ∉ fp := fun z => (f2 c z).2.2.2.2.1 x c ec2 rfl
              obtain ⟨sl, q⟩ := (show Un (frs X.stack) fp H2 H8 s2.heap s8.heap from I8'.base).any ho0 (I.freeC x c ec2) nfp
              exact ⟨_, q, hd⟩
          · obtain ⟨o, e, d⟩ := T.obj _ _ st5 b hb
            exact (I8.pin (b, o) (List.mem_append_right _ (List.mem_append_right _ (mem_pinsAt hb e)))).2.1
        cases b with
        | false =>
          rw [if_neg Bool.false_ne_true]
          rw [if_neg Bool.false_ne_true] at q7
          obtain ⟨m', hm, w7⟩ := q7
          obtain ⟨J1, J2, J3, J4, J5⟩ := back I7
          exact ⟨m', hm, i + 1, ys, H7, its, nn, J1, J2, J3, J4, hv3, J5, w7⟩
        | true =>
          rw [if_pos rfl]
          rw [if_pos rfl] at q7
          refine thn (he _ _ _ _ _ _ s7 σ6 H7 _ I7 q7) fun y s8 ⟨yv, H8, I8, r8, m', hm, w8⟩ => ?_
          obtain ⟨J1, J2, J3, J4, J5⟩ := back I8
          refine wpAny_list_append_plain (hsz := by rw [List.size_toArray, ← hv3.length]; exact Nat.le_of_lt hlen) ⟨nn, J4⟩ fun h₅ hl₅ hs₅ => ?_
          obtain ⟨n5, e5⟩ := hl₅
          have kk : ∀ b o, b ≠ D → s8.heap.get? b = some o → h₅.get? b = some o := fun b o hb e => hs₅.extBut b o hb e
          refine ⟨m', hm, i + 1, ys ++ [yv], H8, its ++ [y], n5, ?_, ?_, J3, by rw [e5]; simp, hv3.append (.cons r8 .nil), J5, w8⟩
          · exact J1.turned (t' := s8.toks) kk J5 hDC (.inr hDle) (fun x c e z => by
              obtain ⟨v0, o0, ho0, hd0⟩ := I.cell x c (hcl1 x c e)
              exact notfp (Nat.le_of_eq z.symm) ho0 hDle) (fun p hp => absurd (show p ∈ ([] : List (Addr × Obj)) from hp) (by simp))
          · refine T.keep _ _ _ J2 fun b hb o e => kk b o (fun z => ?_) e
            obtain ⟨o', e'⟩ := hfo b hb
            exact notfp (Nat.le_of_eq z.symm) e' hDle
    · exact ⟨0, [], H2, [], _, I₁, hst₁, fun b hb => (f2 b hb).1, hacc.choose_spec, .nil, I.hok.fresh hDle, w0⟩
  subst hD
  exact codeAny_compStart_list (loop _ rfl) (T.self _ 0 _ _ _ hst₁ (loop _ rfl))
end
end L2

set_option Elab.async false
set_option linter.all false
set_option maxRecDepth 100000
namespace L2
open PySem PySem.Spec PyProof.Rows
section
variable {X : Cx} {sc : Scope} {own : List Str} {cap : List Nat}
theorem free_cells {pins : List (Addr × Obj)} {σ : St} {H : Hp} {s : Shared} (I : Inv X pins σ H s) (hfr : ∀ y ∈ sc.names, y.2 = .free → X.env.kindOf y.1 = some .cell ∨ X.env.kindOf y.1 = some .free) :
    ∃ cl : List (Str × Addr), closureFor sc X.env = pure cl ∧ (∀ x c, cl.lookup x = some c → X.env.cells.lookup x = some c) ∧ (∀ x, (x, NameKind.free) ∈ sc.names → ∃ c, cl.lookup x = some c) :=
  closure_ok fun x hx => I.ok.has x (hfr _ hx rfl)

/-- [elt for tg in iter if ..] -/
theorem pe_comp {tg elt iter : Expr} {ifs : List Expr} {pos : Pos} {wi : TI} {g : TG} {tt : TT} {te : TE} (own : List Str) (cap : List Nat) (hc : X.calm = true) (hi : PI X tg iter wi)
    (hg : ∀ cl C fp s H, PG (X.inC sc cl C (NC X own cap) fp s H) tg g) (ht : ∀ cl C fp s H, PIf (X.inC sc cl C (NC X own cap) fp s H) ifs tt) (he : ∀ cl C fp s H, PE (X.inC sc cl C (NC X own cap) fp s H) elt te)
    (hcap : Caps X sc cap) (hkind : sc.kind = .function := by rfl) (hcell : ∀ y ∈ sc.names, y.2 ≠ .cell := by decide +kernel)
    (hfr : ∀ y ∈ sc.names, y.2 = .free → X.env.kindOf y.1 = some .cell ∨ X.env.kindOf y.1 = some .free := by decide +kernel)
    (hnames : ∀ x ∈ sc.names, x.2 = .local → sc.names.lookup x.1 = some .local := by decide +kernel) (hs : ∀ x, foldedSetIterable iter X.env x = pure x := by intro _; rfl) :
    PE X (.ListComp elt [⟨tg, iter, ifs, 0⟩] sc pos) (tComp own.length cap wi g tt te) := by
  intro pins s σ H Q I h
  obtain ⟨cl, hclos, hcl1, hcl2⟩ := free_cells I hfr
  rw [eval_ListComp]
  refine wpAny_comprehension_free (use := none) rfl hs hclos hkind hnames (thn (hi pins s σ H _ I h) fun v s1 h1 => thn h1 fun itv s2 h2 => ?_)
  obtain ⟨it, fp, tn, J, H2, e, I2, T, st2, f2, hw⟩ := h2
  subst e
  refine comp_core (RR := fun acc C => compPost (model X.prog X.w) X.A X.xe none (EP X pins σ Q) acc C) (Post := Q) hc I2 T st2 f2 hkind hcl1 hcl2 hcell hcap hg ht he hw ?_
  intro D C H' s' I' hm fC hD q
  obtain ⟨m, hn⟩ := hm
  refine ⟨m, hn, fun h' hs' => ?_⟩
  obtain ⟨f0, f1, f2', f3, f4, f5⟩ := fC
  refine ⟨.ref D, H', ?_, rfl, q⟩
  exact I'.turned (t' := s'.toks) (fun b o hb e => hs'.extBut b o hb e) f0 f1 f3 f4 f5

end
end L2

set_option Elab.async false
set_option linter.all false
set_option maxRecDepth 100000
/-! DATA that a value stands for (own work) -/
namespace L2
open PySem PySem.Spec PyProof.Rows

inductive D where
  | non | bl (b : Bool) | int (i : Int) | str (x : Str) | lst (ds : List D) | tup (ds : List D) | dct (es : List (Key × D))

mutual
inductive Rep (K : PySem.W.Frag) (H : Hp) : V → D → Prop
  | non : Rep K H .non .non
  | bl (b : Bool) : Rep K H (.bl b) (.bl b)
  | int (i : Int) : Rep K H (.int i) (.int i)
  | str (x : Str) : Rep K H (.str x) (.str x)
  | lst {a : Addr} {xs : List V} {ds : List D} : SqL K H a xs → Reps K H xs ds → Rep K H (.ref a) (.lst ds)
  | tup {a : Addr} {xs : List V} {ds : List D} : SqT K H a xs → Reps K H xs ds → Rep K H (.ref a) (.tup ds)
  | dct {a : Addr} {kvs : List (Key × V)} {es : List (Key × D)} : Rd H a (.dK kvs) → RepD K H kvs es → Rep K H (.ref a) (.dct es)
inductive Reps (K : PySem.W.Frag) (H : Hp) : List V → List D → Prop
  | nil : Reps K H [] []
  | cons {x : V} {d : D} {xs : List V} {ds : List D} : Rep K H x d → Reps K H xs ds → Reps K H (x :: xs) (d :: ds)
inductive RepD (K : PySem.W.Frag) (H : Hp) : List (Key × V) → List (Key × D) → Prop
  | nil : RepD K H [] []
  | cons {k : Key} {x : V} {d : D} {xs : List (Key × V)} {ds : List (Key × D)} : Rep K H x d → RepD K H xs ds → RepD K H ((k, x) :: xs) ((k, d) :: ds)
end

/-- what can be read stays to be read (a dict may be held fast or let go) -/
structure Sm (H H' : Hp) : Prop where
  lst : ∀ a xs, Rd H a (.lst xs) → Rd H' a (.lst xs)
  tup : ∀ a xs, Rd H a (.tup xs) → Rd H' a (.tup xs)
  dK : ∀ a kvs, Rd H a (.dK kvs) → Rd H' a (.dK kvs)
theorem Sm.refl (H : Hp) : Sm H H := ⟨fun _ _ h => h, fun _ _ h => h, fun _ _ h => h⟩
theorem Sm.trans {H H1 H2 : Hp} (a : Sm H H1) (b : Sm H1 H2) : Sm H H2 := ⟨fun c x h => b.lst c x (a.lst c x h), fun c x h => b.tup c x (a.tup c x h), fun c x h => b.dK c x (a.dK c x h)⟩
theorem Same.sm {H H' : Hp} (e : Same H H') : Sm H H' :=
  ⟨fun a xs h => h.elim (fun q => .inl (e _ _ q)) fun ⟨o, q⟩ => .inr ⟨o, e _ _ q⟩, fun a xs h => h.elim (fun q => .inl (e _ _ q)) fun ⟨o, q⟩ => .inr ⟨o, e _ _ q⟩, fun a xs h => h.elim (fun q => .inl (e _ _ q)) fun ⟨o, q⟩ => .inr ⟨o, e _ _ q⟩⟩
theorem Same.updN {H : Hp} {p : Addr} {o : HO} (h : H p = none) : Same H (upd H p o) := fun b u e => by rw [upd_ne (ne_of_none e h)]; exact e
theorem Same.upd {H H' : Hp} {p : Addr} {o : HO} (s : Same H H') (h : H p = none) : Same H (upd H' p o) := fun b u e => by rw [upd_ne (ne_of_none e h)]; exact s b u e

section
variable {K : PySem.W.Frag} {H H' : Hp}
theorem Sm.sqL (e : Sm H H') {a : Addr} {xs : List V} (h : SqL K H a xs) : SqL K H' a xs := by
  rcases h with h | h
  · exact .inl (e.lst a xs h)
  · exact .inr h
theorem Sm.sqT (e : Sm H H') {a : Addr} {xs : List V} (h : SqT K H a xs) : SqT K H' a xs := by
  rcases h with h | h
  · exact .inl (e.tup a xs h)
  · exact .inr h
mutual
theorem Rep.sm (e : Sm H H') : ∀ {x : V} {d : D}, Rep K H x d → Rep K H' x d
  | _, _, .non => .non
  | _, _, .bl b => .bl b
  | _, _, .int i => .int i
  | _, _, .str x => .str x
  | _, _, .lst h r => .lst (e.sqL h) (Reps.sm e r)
  | _, _, .tup h r => .tup (e.sqT h) (Reps.sm e r)
  | _, _, .dct h r => .dct (e.dK _ _ h) (RepD.sm e r)
theorem Reps.sm (e : Sm H H') : ∀ {x : List V} {d : List D}, Reps K H x d → Reps K H' x d
  | _, _, .nil => .nil
  | _, _, .cons h r => .cons (Rep.sm e h) (Reps.sm e r)
theorem RepD.sm (e : Sm H H') : ∀ {x : List (Key × V)} {d : List (Key × D)}, RepD K H x d → RepD K H' x d
  | _, _, .nil => .nil
  | _, _, .cons h r => .cons (Rep.sm e h) (RepD.sm e r)
end
theorem Reps.length {xs : List V} {ds : List D} : Reps K H xs ds → xs.length = ds.length
  | .nil => rfl
  | .cons _ r => by rw [List.length_cons, List.length_cons, r.length]
theorem RepD.length {xs : List (Key × V)} {ds : List (Key × D)} : RepD K H xs ds → xs.length = ds.length
  | .nil => rfl
  | .cons _ r => by rw [List.length_cons, List.length_cons, r.length]
theorem Reps.get : ∀ {xs : List V} {ds : List D} {i : Nat} {d : D}, Reps K H xs ds → ds[i]? = some d → ∃ x, xs[i]? = some x ∧ Rep K H x d
  | _, _, _, _, .nil, e => by simp at e
  | _, _, 0, _, .cons h _, e => by simp at e; subst e; exact ⟨_, rfl, h⟩
  | _, _, i + 1, d, .cons _ r, e => by
    obtain ⟨x, h1, h2⟩ := Reps.get (i := i) (d := d) r (by simpa using e)
    exact ⟨x, by simpa using h1, h2⟩
theorem Reps.get' : ∀ {xs : List V} {ds : List D} {i : Nat} {x : V}, Reps K H xs ds → xs[i]? = some x → ∃ d, ds[i]? = some d ∧ Rep K H x d
  | _, _, _, _, .nil, e => by simp at e
  | _, _, 0, _, .cons h _, e => by simp at e; subst e; exact ⟨_, rfl, h⟩
  | _, _, i + 1, d, .cons _ r, e => by
    obtain ⟨x, h1, h2⟩ := Reps.get' (i := i) (x := d) r (by simpa using e)
    exact ⟨x, by simpa using h1, h2⟩
theorem Reps.append : ∀ {xs ys : List V} {ds es : List D}, Reps K H xs ds → Reps K H ys es → Reps K H (xs ++ ys) (ds ++ es)
  | _, _, _, _, .nil, s => s
  | _, _, _, _, .cons r t, s => .cons r (Reps.append t s)
theorem Reps.one {x : V} {d : D} (h : Rep K H x d) : Reps K H [x] [d] := .cons h .nil
theorem Reps.take : ∀ {xs : List V} {ds : List D} (n : Nat), Reps K H xs ds → Reps K H (xs.take n) (ds.take n)
  | _, _, 0, _ => .nil
  | _, _, _ + 1, .nil => .nil
  | _, _, n + 1, .cons r t => .cons r (Reps.take n t)
theorem Reps.drop : ∀ {xs : List V} {ds : List D} (n : Nat), Reps K H xs ds → Reps K H (xs.drop n) (ds.drop n)
  | _, _, 0, r => r
  | _, _, _ + 1, .nil => .nil
  | _, _, n + 1, .cons _ t => Reps.drop n t
theorem Reps.eraseIdx : ∀ {xs : List V} {ds : List D} (n : Nat), Reps K H xs ds → Reps K H (xs.eraseIdx n) (ds.eraseIdx n)
  | _, _, _, .nil => .nil
  | _, _, 0, .cons _ t => t
  | _, _, n + 1, .cons r t => .cons r (Reps.eraseIdx n t)
/-- flat data: the value is written -/
theorem Reps.strs {ss : List Str} : Reps K H (ss.map V.str) (ss.map D.str) := by
  induction ss with
  | nil => exact .nil
  | cons x r ih => exact .cons (.str x) ih
theorem Reps.ints {ss : List Int} : Reps K H (ss.map V.int) (ss.map D.int) := by
  induction ss with
  | nil => exact .nil
  | cons x r ih => exact .cons (.int x) ih
theorem RepD.get : ∀ {xs : List (Key × V)} {ds : List (Key × D)} {k : Key} , RepD K H xs ds →
    (∀ d, (ds.find? fun e => decide (e.1 = k)).map (·.2) = some d → ∃ x, valV xs k = some x ∧ Rep K H x d) ∧ ((ds.find? fun e => decide (e.1 = k)) = none → valV xs k = none)
  | _, _, _, .nil => ⟨fun d e => (by cases e), fun _ => rfl⟩
  | _, _, k, .cons (k := k0) h r => by
    obtain ⟨i1, i2⟩ := RepD.get (k := k) r
    by_cases e : k0 = k
    · subst e
      refine ⟨fun d ed => ?_, fun ed => ?_⟩
      · simp at ed
        subst ed
        exact ⟨_, by simp [valV], h⟩
      · simp at ed
    · refine ⟨fun d ed => ?_, fun ed => ?_⟩
      · rw [List.find?_cons, decide_eq_false e] at ed
        obtain ⟨x, h1, h2⟩ := i1 d ed
        exact ⟨x, by unfold valV; rw [List.find?_cons, decide_eq_false e]; exact h1, h2⟩
      · rw [List.find?_cons, decide_eq_false e] at ed
        unfold valV; rw [List.find?_cons, decide_eq_false e]; exact i2 ed
theorem RepD.keys {xs : List (Key × V)} {ds : List (Key × D)} : RepD K H xs ds → xs.map (·.1) = ds.map (·.1)
  | .nil => rfl
  | .cons _ r => by rw [List.map_cons, List.map_cons, r.keys]
end
end L2

set_option Elab.async false
set_option linter.all false
set_option maxRecDepth 100000
/-! EQUALITY of data, where it holds (own work) -/
namespace L2
open PySem PySem.Spec PyProof.Rows PySem.SeqAt

def EqIn (P : Program) (w : World) (A : Around) (s : Shared) (y x : Value) (b : Bool) : Prop :=
  ∀ (E : Value → Shared → Prop) (Q : Bool → Shared → Prop), Q b s → wpAny (model P w) A (eqBool y x) Q E s
theorem EqIn.of {P : Program} {w : World} {A : Around} {s : Shared} {y x : Value} {b : Bool} (h : EqAt A s y x b) : EqIn P w A s y x b := fun E Q q => h P w E Q q

/- data without dicts; how deep -/
mutual
def D.flat : D → Bool
  | .dct _ => false
  | .lst ds => D.flats ds
  | .tup ds => D.flats ds
  | _ => true
def D.flats : List D → Bool
  | [] => true
  | d :: r => d.flat && D.flats r
end
mutual
def D.dep : D → Nat
  | .dct es => D.depD es + 1
  | .lst ds => D.deps ds + 1
  | .tup ds => D.deps ds + 1
  | _ => 0
def D.deps : List D → Nat
  | [] => 0
  | d :: r => max d.dep (D.deps r)
def D.depD : List (Key × D) → Nat
  | [] => 0
  | (_, d) :: r => max d.dep (D.depD r)
end
theorem D.flats_get : ∀ {ds : List D} {i : Nat} {d : D}, D.flats ds = true → ds[i]? = some d → d.flat = true
  | [], _, _, _, e => by simp at e
  | d :: r, 0, _, h, e => by simp at e; subst e; simp [D.flats] at h; exact h.1
  | _ :: r, i + 1, _, h, e => by simp [D.flats] at h; exact D.flats_get h.2 (by simpa using e)
theorem D.deps_get : ∀ {ds : List D} {i : Nat} {d : D}, ds[i]? = some d → d.dep ≤ D.deps ds
  | [], _, _, e => by simp at e
  | d :: r, 0, _, e => by simp at e; subst e; simp only [D.deps]; omega
  | _ :: r, i + 1, d, e => by
    have := D.deps_get (ds := r) (i := i) (d := d) (by simpa using e)
    simp only [D.deps]
    omega

section
variable {X : Cx} {pins : List (Addr × Obj)} {σ : St} {H : Hp} {s : Shared}
theorem all_range_true (n : Nat) : (List.range n).all (fun _ => true) = true := by simp
theorem RelV.eqAt_flat {x : V} {u v : Value} (A : Around) (r : RelV x u) (q : RelV x v) (f : flatV x = true) : EqAt A s u v true := by
  have h := eqAt_V (A := A) (s := s) r q f f
  have e : eqV x x = true := by cases x <;> first | exact absurd (show false = true from f) Bool.false_ne_true | rfl | (simp [eqV]; done)
  rw [e] at h
  exact h
/-- two things that stand for the same data without dicts are equal -/
theorem rep_eqAt (I : Inv X pins σ H s) : ∀ (d : D) {x y : V} {u v : Value} {A : Around}, d.flat = true → A.units + d.dep < cLine → Rep X.K H x d → Rep X.K H y d → RelV x u → RelV y v → EqAt A s u v true ∧ (∀ a b, u = .ref a → v = .ref b → RcAt A s u v true ∧ RcNeAt A s u v false)
  | .non, x, y, u, v, A, _, _, r1, r2, e1, e2 => by cases r1; cases r2; exact ⟨RelV.eqAt_flat A e1 e2 rfl, fun a b h _ => by cases e1; cases h⟩
  | .bl _, x, y, u, v, A, _, _, r1, r2, e1, e2 => by cases r1; cases r2; exact ⟨RelV.eqAt_flat A e1 e2 rfl, fun a b h _ => by cases e1; cases h⟩
  | .int _, x, y, u, v, A, _, _, r1, r2, e1, e2 => by cases r1; cases r2; exact ⟨RelV.eqAt_flat A e1 e2 rfl, fun a b h _ => by obtain ⟨t, rfl⟩ := e1; cases h⟩
  | .str _, x, y, u, v, A, _, _, r1, r2, e1, e2 => by cases r1; cases r2; exact ⟨RelV.eqAt_flat A e1 e2 rfl, fun a b h _ => by obtain ⟨t, rfl⟩ := e1; cases h⟩
  | .dct _, _, _, _, _, _, f, _, _, _, _, _ => by cases f
  | .lst ds, x, y, u, v, A, f, hu, r1, r2, e1, e2 => by
    cases r1 with
    | lst q1 p1 =>
    cases r2 with
    | lst q2 p2 =>
    cases e1; cases e2
    rename_i a1 xs1 a2 xs2
    obtain ⟨i1, v1, l1, _⟩ := I.list q1
    obtain ⟨i2, v2, l2, _⟩ := I.list q2
    have n1 := p1.length; have n2 := p2.length; have m1 := v1.length; have m2 := v2.length
    have hd : A.units + (D.deps ds + 1) < cLine := hu
    have ie : ∀ j (h1 : j < i1.toArray.size) (h2 : j < i2.toArray.size), EqAt A.in1 s i1.toArray[j] i2.toArray[j] true := fun j h1 h2 => by
      have h1' : j < i1.length := by simpa using h1
      have h2' : j < i2.length := by simpa using h2
      have hj : j < ds.length := by omega
      have eds : ds[j]? = some ds[j] := List.getElem?_eq_getElem hj
      obtain ⟨y1, g1, w1⟩ := p1.get eds
      obtain ⟨y2, g2, w2⟩ := p2.get eds
      obtain ⟨u1, k1, z1⟩ := v1.get g1
      obtain ⟨u2, k2, z2⟩ := v2.get g2
      have c1 : i1.toArray[j] = u1 := by simpa [List.getElem?_eq_getElem h1'] using k1
      have c2 : i2.toArray[j] = u2 := by simpa [List.getElem?_eq_getElem h2'] using k2
      rw [c1, c2]
      have hdep := D.deps_get eds
      exact (rep_eqAt I ds[j] (A := A.in1) (D.flats_get f eds) (by show A.units + 1 + _ < cLine; omega) w1 w2 z1 z2).1
    have rc := RcAt.lists (A := A) (e := fun _ => true) l1.isList l2.isList (by simp; omega) (by omega) ie
    have rn := RcNeAt.lists (A := A) (e := fun _ => true) l1.isList l2.isList (by simp; omega) (by omega) ie
    rw [all_range_true] at rc rn
    refine ⟨?_, fun _ _ _ _ => ⟨rc, rn⟩⟩
    by_cases e : a1 = a2
    · subst e; exact EqAt.same _
    · exact EqAt.of_refs e rc
  | .tup ds, x, y, u, v, A, f, hu, r1, r2, e1, e2 => by
    cases r1 with
    | tup q1 p1 =>
    cases r2 with
    | tup q2 p2 =>
    cases e1; cases e2
    rename_i a1 xs1 a2 xs2
    obtain ⟨i1, v1, l1, _⟩ := I.tuple q1
    obtain ⟨i2, v2, l2, _⟩ := I.tuple q2
    have n1 := p1.length; have n2 := p2.length; have m1 := v1.length; have m2 := v2.length
    have hd : A.units + (D.deps ds + 1) < cLine := hu
    have ie : ∀ j (h1 : j < i1.toArray.size) (h2 : j < i2.toArray.size), EqAt A.in1 s i1.toArray[j] i2.toArray[j] true := fun j h1 h2 => by
      have h1' : j < i1.length := by simpa using h1
      have h2' : j < i2.length := by simpa using h2
      have hj : j < ds.length := by omega
      have eds : ds[j]? = some ds[j] := List.getElem?_eq_getElem hj
      obtain ⟨y1, g1, w1⟩ := p1.get eds
      obtain ⟨y2, g2, w2⟩ := p2.get eds
      obtain ⟨u1, k1, z1⟩ := v1.get g1
      obtain ⟨u2, k2, z2⟩ := v2.get g2
      have c1 : i1.toArray[j] = u1 := by simpa [List.getElem?_eq_getElem h1'] using k1
      have c2 : i2.toArray[j] = u2 := by simpa [List.getElem?_eq_getElem h2'] using k2
      rw [c1, c2]
      have hdep := D.deps_get eds
      exact (rep_eqAt I ds[j] (A := A.in1) (D.flats_get f eds) (by show A.units + 1 + _ < cLine; omega) w1 w2 z1 z2).1
    have t1 : s.heap.IsTuple a1 i1.toArray := l1
    have t2 : s.heap.IsTuple a2 i2.toArray := l2
    have rc := RcAt.tuples (A := A) (e := fun _ => true) t1 t2 (by omega) ie
    have rn := RcNeAt.tuples (A := A) (e := fun _ => true) t1 t2 (by omega) ie
    have sz : (i1.toArray.size == i2.toArray.size) = true := by simp; omega
    rw [all_range_true, sz] at rc rn
    refine ⟨?_, fun _ _ _ _ => ⟨rc, rn⟩⟩
    by_cases e : a1 = a2
    · subst e; exact EqAt.same _
    · exact EqAt.of_refs e rc
termination_by d => sizeOf d
decreasing_by
  all_goals simp_wf
  all_goals (have := List.sizeOf_lt_of_mem (List.getElem_mem hj); omega)
end
end L2

set_option Elab.async false
set_option linter.all false
set_option maxRecDepth 100000
namespace L2
open PySem PySem.Spec PyProof.Rows PySem.SeqAt

section
variable {P : Program} {w : World} {κ : Type} [DecidableEq κ] {kd : KeyKind P w κ} {A : Around} {E : Value → Shared → Prop} {s : Shared}
/-- every pair of the one has its like in the other -/
def Likes (P : Program) (w : World) (A : Around) (s : Shared) (qs ps : List (κ × Value)) : Prop := ∀ k v, (k, v) ∈ ps → ∃ y, valueAt qs k = some y ∧ EqIn P w A s v y true
theorem pairs_alike {nm : String} {p q : Addr} {ps qs : List (κ × Value)} {Q : Bool → Shared → Prop} (np : (p == sysModules) = false) (nq : (q == sysModules) = false) (dp : s.heap.DictOf kd p ps) (dq : s.heap.DictOf kd q qs)
    (hl : ps.length = qs.length) (hk : Likes P w A s qs ps) (h : Q true s) : wpAny (model P w) A (Builtin.Dict.samePairs nm p q) Q E s := by
  obtain ⟨o1, e1, n1, g1, _, d1, k1, r1, _⟩ := dp
  obtain ⟨o2, e2, n2, g2, _, d2, k2, r2, _⟩ := dq
  have l1 : ps.length = e1.size := (r1.length).symm.trans Array.length_toList
  have l2 : qs.length = e2.size := (r2.length).symm.trans Array.length_toList
  have look : ∀ k, findBy kd.is e2 k = valueAt qs k := fun k => by
    have := r2.find k
    rw [← this]
    clear this l2 r2 k2 d2 g2
    obtain ⟨l⟩ := e2
    simp [findBy]
  have sz : e1.size = e2.size := by omega
  unfold Builtin.Dict.samePairs Builtin.Dict.showsAll
  have np' : ¬ (p == sysModules) = true := by rw [np]; decide
  have nq' : ¬ (q == sysModules) = true := by rw [nq]; decide
  rw [if_neg np', if_neg nq']
  refine wpAny_bind (wpAny_pure (wpAny_bind (wpAny_pure (wpAny_bind (wpAny_dictEntries g1 d1 ?_)))))
  dsimp only
  refine wpAny_bind (wpAny_dictEntries g2 d2 ?_)
  rw [if_neg (by rw [sz]; simp)]
  refine wpAny_bind (wpAny_dictEpoch g1 d1 (wpAny_bind ?_))
  rw [Std.Legacy.Range.forIn_eq_forIn_range']
  simp only [Std.Legacy.Range.size, Nat.sub_zero, Nat.add_sub_cancel, Nat.div_one]
  refine wpAny_forIn_list _ (fun rest t s' => s' = s ∧ t = (none, ()) ∧ ∃ i, rest = List.range' i (e1.size - i) ∧ i ≤ e1.size) _ ?_ ?_ _ _ ⟨rfl, rfl, 0, by simp, Nat.zero_le _⟩
  · rintro x rest t s' ⟨rfl, rfl, i, hr, hi⟩
    have lt : i < e1.size := Nat.lt_of_not_le fun z => by rw [Nat.sub_eq_zero_of_le z] at hr; simp at hr
    have es : e1.size - i = (e1.size - (i + 1)) + 1 := by omega
    rw [es, List.range'_succ] at hr
    injection hr with hx hrest
    subst hx
    refine wpAny_bind (wpAny_dictEntries g1 d1 ?_)
    rw [Array.getElem?_eq_getElem lt]
    have lt' : x < ps.length := by omega
    have gp : ps[x]? = some ps[x] := List.getElem?_eq_getElem lt'
    obtain ⟨hkey, hval⟩ := r1.get? (i := x) (e := e1[x]) (k := ps[x].1) (v := ps[x].2) (by rw [Array.getElem?_toList]; exact Array.getElem?_eq_getElem lt) gp
    obtain ⟨k', hk', hh⟩ := k1 e1[x] (Array.getElem_mem lt)
    have ek : k' = ps[x].1 := kd.inj _ _ _ hk' hkey
    subst ek
    obtain ⟨y, hy, heq⟩ := hk ps[x].1 ps[x].2 (List.getElem_mem lt')
    show wpAny _ _ (holding [e1[x].key, e1[x].val] _ >>= _) _ _ _
    rw [hh]
    refine wpAny_bind (wpAny_holding (wpAny_bind (wpAny_dictFind_of hkey g2 d2 k2 ?_)))
    have fy := (look ps[x].1).trans hy
    rw [findBy_of_findIdx?] at fy
    cases hj : e2.findIdx? fun e => kd.is ps[x].1 e.key with
    | none => rw [hj] at fy; cases fy
    | some j =>
      obtain ⟨jl, _, _⟩ := Array.findIdx?_eq_some_iff_getElem.mp hj
      have ev : e2[j].val = y := by
        rw [hj] at fy
        simpa [Array.getElem?_eq_getElem jl] using fy
      refine wpAny_bind (wpAny_dictEntries g2 d2 ?_)
      rw [Array.getElem?_eq_getElem jl]
      rw [← ev, ← hval] at heq
      refine wpAny_holding (heq _ _ ?_)
      show wpAny _ _ (if (!true) = true then _ else _) _ _ _
      rw [if_neg (by decide)]
      refine wpAny_bind (wpAny_dictEpoch g1 d1 ?_)
      rw [if_neg (by simp)]
      exact wpAny_pure ⟨rfl, rfl, x + 1, hrest, lt⟩
  · rintro t s' ⟨rfl, rfl, _⟩
    exact wpAny_pure h
theorem dict_slot2 {f : String} {p q : Addr} {qs : List (κ × Value)} {R : Value × Value → Shared → Prop} (tp : s.TypeIs (.ref p) "dict") (h : R (.ref p, .ref q) s) : wpAny (model P w) A (Builtin.Dict.dictSlotArgs f ⟨[.ref p, .ref q], []⟩) R E s := by
  unfold Builtin.Dict.dictSlotArgs
  refine wpAny_bind (wpAny_notOrdered_dict tp ?_)
  exact wpAny_pure h
theorem dict_eq_true {p q : Addr} {ps qs : List (κ × Value)} {Q : Value → Shared → Prop} (np : (p == sysModules) = false) (nq : (q == sysModules) = false) (dp : s.heap.DictOf kd p ps) (dq : s.heap.DictOf kd q qs) (hu : A.units < cLine)
    (hl : ps.length = qs.length) (hk : Likes P w A.in1 s qs ps) (h : Q (.bool true) s) : wpAny (model P w) A (compareOp .Eq (.ref p) (.ref q)) Q E s := by
  refine wpAny_richCompare_same_room (op := .Eq) dp.typeIs dq.typeIs PySem.F.slot_dict_eq (wpAny_call_entry PySem.F.slot_dict_eq dp.typeIs PySem.F.entry_dict_eq ?_ (PySem.F.args_dict_eq_2 _ _)) hu
  show wpAny _ _ (Builtin.Dict.dictSlotArgs "__eq__" ⟨[.ref p, .ref q], []⟩ >>= _) _ _ s
  refine wpAny_bind (dict_slot2 (qs := qs) dp.typeIs (wpAny_bind (wpAny_isInstance (T := "dict") dq.typeIs PySem.F.sub_dict_dict ?_)))
  simp only [Bool.not_true, Bool.false_eq_true, if_false]
  exact wpAny_bind (wpAny_pure (wpAny_bind (wpAny_pure (wpAny_bind (pairs_alike np nq dp dq hl hk (wpAny_pure ⟨_, rfl, (fun x => nomatch x), h⟩))))))
theorem dict_ne_false {p q : Addr} {ps qs : List (κ × Value)} {Q : Value → Shared → Prop} (np : (p == sysModules) = false) (nq : (q == sysModules) = false) (dp : s.heap.DictOf kd p ps) (dq : s.heap.DictOf kd q qs) (hu : A.units < cLine)
    (hl : ps.length = qs.length) (hk : Likes P w A.in1 s qs ps) (h : Q (.bool false) s) : wpAny (model P w) A (compareOp .NotEq (.ref p) (.ref q)) Q E s := by
  refine wpAny_richCompare_same_room (op := .NotEq) dp.typeIs dq.typeIs PySem.F.slot_dict_ne (wpAny_call_entry PySem.F.slot_dict_ne dp.typeIs PySem.F.entry_dict_ne ?_ (PySem.F.args_dict_ne_2 _ _)) hu
  show wpAny _ _ (Builtin.Dict.dictSlotArgs "__ne__" ⟨[.ref p, .ref q], []⟩ >>= _) _ _ s
  refine wpAny_bind (dict_slot2 (qs := qs) dp.typeIs (wpAny_bind (wpAny_isInstance (T := "dict") dq.typeIs PySem.F.sub_dict_dict ?_)))
  simp only [Bool.not_true, Bool.false_eq_true, if_false]
  exact wpAny_bind (wpAny_pure (wpAny_bind (wpAny_pure (wpAny_bind (pairs_alike np nq dp dq hl hk (wpAny_pure ⟨_, rfl, (fun x => nomatch x), h⟩))))))
end
end L2

set_option Elab.async false
set_option linter.all false
set_option maxRecDepth 100000
namespace L2
open PySem PySem.Spec PyProof.Rows PySem.SeqAt
def lookD (es : List (Key × D)) (k : Key) : Option D := (es.find? fun e => decide (e.1 = k)).map (·.2)
/-- equal as Python says it: dicts in any order -/
inductive DEq : D → D → Prop
  | same {d : D} : d.flat = true → DEq d d
  | dct {es fs : List (Key × D)} (f : Key → D) : es.length = fs.length → (∀ k d, (k, d) ∈ es → lookD fs k = some (f k)) → (∀ k d, (k, d) ∈ es → DEq d (f k)) → DEq (.dct es) (.dct fs)
theorem D.depD_mem : ∀ {es : List (Key × D)} {k : Key} {d : D}, (k, d) ∈ es → d.dep ≤ D.depD es
  | [], _, _, h => by simp at h
  | (k0, d0) :: r, k, d, h => by
    simp only [D.depD]
    rcases List.mem_cons.mp h with e | e
    · cases e; omega
    · have := D.depD_mem e; omega
section
variable {K : PySem.W.Frag} {X : Cx} {pins : List (Addr × Obj)} {σ : St} {H : Hp} {s : Shared}
theorem RepD.mem : ∀ {xs : List (Key × V)} {ds : List (Key × D)} {k : Key} {x : V}, RepD K H xs ds → (k, x) ∈ xs → ∃ d, (k, d) ∈ ds ∧ Rep K H x d
  | _, _, _, _, .nil, h => by simp at h
  | _, _, _, _, .cons h0 r, h => by
    rcases List.mem_cons.mp h with e | e
    · cases e; exact ⟨_, List.mem_cons_self, h0⟩
    · obtain ⟨d, a, b⟩ := r.mem e; exact ⟨d, List.mem_cons_of_mem _ a, b⟩
theorem KV.mem {κ : Type} : ∀ {xs : List (κ × V)} {vs : List (κ × Value)} {k : κ} {u : Value}, KV xs vs → (k, u) ∈ vs → ∃ x, (k, x) ∈ xs ∧ RelV x u
  | _, _, _, _, .nil, h => by simp at h
  | _, _, _, _, .cons (a := a) h0 r, h => by
    rcases List.mem_cons.mp h with e | e
    · obtain ⟨e1, e2⟩ := h0
      subst e
      exact ⟨a.2, by rw [show a = (a.1, a.2) from rfl, e1]; exact List.mem_cons_self, e2⟩
    · obtain ⟨d, p, q⟩ := KV.mem (xs := _) (vs := _) r e; exact ⟨d, List.mem_cons_of_mem _ p, q⟩
theorem rep_deq (I : Inv X pins σ H s) : ∀ {d d' : D}, DEq d d' → ∀ {x y : V} {u v : Value} {A : Around}, A.units + d.dep < cLine → Rep X.K H x d → Rep X.K H y d' → RelV x u → RelV y v →
    EqIn X.prog X.w A s u v true ∧ (∀ a b, u = .ref a → v = .ref b → ∀ (E : Value → Shared → Prop) (Q : Value → Shared → Prop), (Q (.bool true) s → wpAny (model X.prog X.w) A (compareOp .Eq u v) Q E s) ∧ (Q (.bool false) s → wpAny (model X.prog X.w) A (compareOp .NotEq u v) Q E s)) := by
  intro d d' h
  induction h with
  | same f =>
    intro x y u v A hu r1 r2 e1 e2
    obtain ⟨a1, a2⟩ := rep_eqAt I _ f hu r1 r2 e1 e2
    exact ⟨EqIn.of a1, fun a b h1 h2 E Q => ⟨fun q => (a2 a b h1 h2).1 _ _ _ _ q, fun q => (a2 a b h1 h2).2 _ _ _ _ q⟩⟩
  | @dct es fs f hl hlook hd ih =>
    intro x y u v A hu r1 r2 e1 e2
    cases r1 with
    | dct q1 p1 =>
    cases r2 with
    | dct q2 p2 =>
    cases e1; cases e2
    rename_i a1 k1 a2 k2
    obtain ⟨z1, m1, v1, w1, o1⟩ := dk_rd I.hok q1
    obtain ⟨z2, m2, v2, w2, o2⟩ := dk_rd I.hok q2
    have hu' : A.units + (D.depD es + 1) < cLine := hu
    have len : v1.length = v2.length := by
      have := p1.length; have := p2.length; have := Paired.length w1; have := Paired.length w2; omega
    have lk : Likes X.prog X.w A.in1 s v2 v1 := fun k u hm => by
      obtain ⟨x, hx, rx⟩ := KV.mem w1 hm
      obtain ⟨d, hd1, rd⟩ := p1.mem hx
      have hf := hlook k d hd1
      obtain ⟨g1, _⟩ := p2.get (k := k)
      obtain ⟨y, hy, ry⟩ := g1 (f k) hf
      have := KV.val w2 k
      rw [hy] at this
      obtain ⟨u2, e2, r2⟩ := RelO.some_of this
      refine ⟨u2, e2, (ih k d hd1 (A := A.in1) ?_ rd ry rx r2).1⟩
      have := D.depD_mem hd1
      show A.units + 1 + _ < cLine
      omega
    have key : ∀ (E : Value → Shared → Prop) (Q : Value → Shared → Prop), (Q (.bool true) s → wpAny (model X.prog X.w) A (compareOp .Eq (.ref a1) (.ref a2)) Q E s) ∧ (Q (.bool false) s → wpAny (model X.prog X.w) A (compareOp .NotEq (.ref a1) (.ref a2)) Q E s) := fun E Q =>
      ⟨fun q => dict_eq_true m1 m2 o1 o2 (by omega) len lk q, fun q => dict_ne_false m1 m2 o1 o2 (by omega) len lk q⟩
    refine ⟨fun E Q q => ?_, fun a b h1 h2 => by cases h1; cases h2; exact key⟩
    by_cases e : a1 = a2
    · subst e
      exact EqAt.same _ _ _ _ _ q
    · unfold eqBool
      refine wpAny_holding (wpAny_ite_split (fun hab => absurd (by have := eq_of_beq hab; injection this) e) (fun _ => ?_))
      exact wpAny_bind ((key E _).1 (wpAny_truthy_bool q))
end
section
variable {X : Cx}
/-- == of two things that stand for equal data -/
theorem op_eqD (hu : X.A.units + 8 < cLine) : OpR X (compareOp .Eq) (fun x y H Q => ∃ a b d d', x = .ref a ∧ y = .ref b ∧ Rep X.K H x d ∧ Rep X.K H y d' ∧ DEq d d' ∧ d.dep ≤ 8 ∧ Q (.bl true) H) := by
  rintro pins s σ H x y v u Q I rx ry ⟨a, b, d, d', rfl, rfl, r1, r2, hd, hl, q⟩
  have := rep_deq I hd (A := X.A) (by omega) r1 r2 rx ry
  cases rx; cases ry
  exact (this.2 a b rfl rfl X.xe _).1 ⟨.bl true, H, I, rfl, q⟩
end
end L2

set_option Elab.async false
set_option linter.all false
set_option maxRecDepth 100000
/-! WALKS over dicts (own work) -/
namespace L2
open PySem PySem.Spec PyProof.Rows

section
variable {X : Cx} {pins : List (Addr × Obj)} {σ : St} {H : Hp} {s : Shared} {a : Addr} {kvs : List (Key × V)}
theorem KV.get {κ : Type} : ∀ {xs : List (κ × V)} {vs : List (κ × Value)} {i : Nat} {k : κ} {v : V}, KV xs vs → xs[i]? = some (k, v) → ∃ u, vs[i]? = some (k, u) ∧ RelV v u
  | _, _, _, _, _, .nil, e => by simp at e
  | _, _, 0, k, v, .cons (b := b) h _, e => by
    simp at e
    subst e
    exact ⟨b.2, by have := h.1; simp at this; subst this; rfl, h.2⟩
  | _, _, i + 1, k, v, .cons _ r, e => by
    obtain ⟨u, p, q⟩ := KV.get (i := i) (k := k) (v := v) r (by simpa using e)
    exact ⟨u, by simpa using p, q⟩
end
/-- the keys of the dict at a, which is held fast -/
def Itd (a : Addr) (o : Obj) (kvs : List (Key × V)) : It :=
  ⟨fun i H => H a = some (.frz o (.dK kvs)) ∧ i < kvs.length, fun i H x H' => H' = H ∧ ∃ k v, kvs[i]? = some (k, v) ∧ x = kV k, fun i H => H a = some (.frz o (.dK kvs)) ∧ kvs.length ≤ i⟩
/-- its values -/
def Itv (a : Addr) (o : Obj) (kvs : List (Key × V)) : It :=
  ⟨fun i H => H a = some (.frz o (.dK kvs)) ∧ i < kvs.length, fun i H x H' => H' = H ∧ ∃ k, kvs[i]? = some (k, x), fun i H => H a = some (.frz o (.dK kvs)) ∧ kvs.length ≤ i⟩

/-- H2 is H1 with the dict at a held fast -/
def Fzn (a : Addr) (o : Obj) (kvs : List (Key × V)) (H1 H2 : Hp) : Prop := H2 a = some (.frz o (.dK kvs)) ∧ (H2 = H1 ∨ (H1 a = some (.dK kvs) ∧ H2 = upd H1 a (.frz o (.dK kvs))))
def iDict (tl : TE) : TI := fun σ H R => tl σ H fun x H1 => ∃ a kvs, x = .ref a ∧ Rd H1 a (.dK kvs) ∧ ∀ o H2, Fzn a o kvs H1 H2 → R (Itd a o kvs) H2
section
variable {X : Cx} {tg : Expr}
end

/-- what an end must give so that the dict, let go, is as wished -/
def Thw (a : Addr) (o : Obj) (kvs : List (Key × V)) (H1 H H' : Hp) : Prop := (H1 a = some (.dK kvs) ∧ H' = upd H a (.dK kvs)) ∨ (H1 a ≠ some (.dK kvs) ∧ H' = H)
def thawE (a : Addr) (o : Obj) (kvs : List (Key × V)) (H1 : Hp) (D : Ends) : Ends where
  nx := fun σ H => H a = some (.frz o (.dK kvs)) ∧ ∀ H', Thw a o kvs H1 H H' → D.nx σ H'
  rt := fun v H => H a = some (.frz o (.dK kvs)) ∧ ∀ H', Thw a o kvs H1 H H' → D.rt v H'
  bk := fun _ _ => False
  ct := fun _ _ => False
/-- a loop's condition, from its iterator on -/
def LoopVC (J : It) (g : TG) (tb : TS) (D : Ends) (σ : St) (H1 : Hp) : Prop := ∃ W : Nat → Nat → St → Hp → Prop, (∃ m, W 0 m σ H1) ∧ ∀ i m σ H, W i m σ H →
  (J.stop i H ∧ D.nx σ H) ∨ (J.go i H ∧ ∃ N : St → Hp → Prop, (∀ σ' H', N σ' H' → ∃ m', m' < m ∧ W (i + 1) m' σ' H') ∧ ∀ x H', J.yld i H x H' → g x σ H' fun σ2 H2 => tb { D with nx := N, ct := N, bk := D.nx } σ2 H2)
/-- for k in d -/
def tForD (te : TE) (g : TG) (tb : TS) : TS := fun D σ H => te σ H fun x H1 => ∃ a kvs, x = .ref a ∧ Rd H1 a (.dK kvs) ∧ ∀ o H2, Fzn a o kvs H1 H2 → LoopVC (Itd a o kvs) g tb (thawE a o kvs H1 D) σ H2
section
variable {X : Cx} {tg : Expr}

/-- all but the dict at a, which is held fast, is as in H1 -/
structure Fs (o : Obj) (a : Addr) (kvs : List (Key × V)) (H1 H : Hp) : Prop where
  rest : ∀ b ob, b ≠ a → H1 b = some ob → H b = some ob
  held : H a = some (.frz o (.dK kvs))
theorem Fs.sm {o : Obj} {a : Addr} {kvs : List (Key × V)} {H1 H : Hp} (f : Fs o a kvs H1 H) (h : Rd H1 a (.dK kvs)) : Sm H1 H := by
  have key : ∀ (b : Addr) (u : HO), (∀ z, u ≠ .frz z (.dK kvs)) → Rd H1 b u → (b = a → u = .dK kvs) → Rd H b u := fun b u _ hr hb => by
    by_cases e : b = a
    · subst e; rw [hb rfl]; exact .inr ⟨o, f.held⟩
    · rcases hr with q | ⟨z, q⟩
      · exact .inl (f.rest b _ e q)
      · exact .inr ⟨z, f.rest b _ e q⟩
  have same : ∀ {u : HO}, (∀ z y, u ≠ .frz z y) → Rd H1 a u → u = .dK kvs := fun {u} nu hr => by
    rcases hr with q | ⟨z, q⟩ <;> rcases h with q' | ⟨z', q'⟩ <;> rw [q] at q'
    · exact Option.some.inj q'
    · exact absurd (Option.some.inj q') (nu _ _)
    · cases q'
    · cases q'; rfl
  exact ⟨fun b xs hr => key b _ (by simp) hr fun e => same (by simp) (e ▸ hr), fun b xs hr => key b _ (by simp) hr fun e => same (by simp) (e ▸ hr), fun b xs hr => key b _ (by simp) hr fun e => same (by simp) (e ▸ hr)⟩
theorem Fs.of {o : Obj} {a : Addr} {kvs : List (Key × V)} {H1 H2 : Hp} (f : Fzn a o kvs H1 H2) : Fs o a kvs H1 H2 := by
  obtain ⟨h, e | ⟨e1, e2⟩⟩ := f
  · subst e; exact ⟨fun _ _ _ q => q, h⟩
  · subst e2; exact ⟨fun b ob n q => by rw [upd_ne n]; exact q, h⟩
theorem Fs.same {o : Obj} {a : Addr} {kvs : List (Key × V)} {H1 H H' : Hp} (f : Fs o a kvs H1 H) (e : Same H H') : Fs o a kvs H1 H' := ⟨fun b ob n q => e _ _ (f.rest b ob n q), e _ _ f.held⟩
theorem Fs.upd {o : Obj} {a l : Addr} {u : HO} {kvs : List (Key × V)} {H1 H : Hp} (f : Fs o a kvs H1 H) (h1 : H1 l = none) (h2 : l ≠ a) : Fs o a kvs H1 (L2.upd H l u) :=
  ⟨fun b ob n q => by rw [upd_ne (ne_of_none q h1)]; exact f.rest b ob n q, by rw [upd_ne h2.symm]; exact f.held⟩
end
end L2

set_option Elab.async false
set_option linter.all false
set_option maxRecDepth 100000
/-! BUILT-IN functions and methods (own work) -/
namespace L2
open PySem PySem.Spec PyProof.Rows

/-! ### isinstance -/
def D.ty : D → String
  | .non => "NoneType" | .bl _ => "bool" | .int _ => "int" | .str _ => "str" | .lst _ => "list" | .tup _ => "tuple" | .dct _ => "dict"
def isiB (a b : String) : Bool := a == b || (a == "bool" && b == "int")
def tyOk (b : String) : Bool := ["bool", "int", "str", "list", "tuple", "dict"].contains b
section
variable {X : Cx}
theorem kit_of (K : PySem.W.Frag) (d : D) {b : String} (h : tyOk b = true) : PySem.W.kitOne K (.type d.ty) (.type b) = some (isiB d.ty b) := by
  have hb : b = "bool" ∨ b = "int" ∨ b = "str" ∨ b = "list" ∨ b = "tuple" ∨ b = "dict" := by simpa [tyOk] using h
  rcases hb with rfl | rfl | rfl | rfl | rfl | rfl <;> cases d <;> (show PySem.W.kitOne K (.type _) (.type _) = some _) <;> with_unfolding_all rfl
theorem isi_rep {pins : List (Addr × Obj)} {σ : St} {H : Hp} {s : Shared} {A : Around} {E : Value → Shared → Prop} {Q : Value → Shared → Prop} {x : V} {u : Value} {d : D} {b : String} (I : Inv X pins σ H s) (rx : RelV x u) (r : Rep X.K H x d) (h : tyOk b = true)
    (q : ∀ tk, Q (.bool (isiB d.ty b)) { s with toks := tk }) : wpAny (model X.prog X.w) A (call (.builtin "isinstance") [u, .type b]) Q E s := by
  have e := kit_of X.K d h
  cases r with
  | non => cases rx; exact PySem.W.kia_one PySem.W.kitx_none I.kIn True.intro e (fun z => nomatch z) q
  | bl y => cases rx; exact PySem.W.kia_one PySem.W.kitx_bool I.kIn True.intro e (fun z => nomatch z) q
  | int i => obtain ⟨t, rfl⟩ := rx; exact PySem.W.kia_one PySem.W.kitx_int I.kIn True.intro e (fun z => nomatch z) q
  | str y => obtain ⟨t, rfl⟩ := rx; exact PySem.W.kia_one PySem.W.kitx_str I.kIn True.intro e (fun z => nomatch z) q
  | lst hq _ =>
    cases rx
    obtain ⟨its, _, ⟨o, n, h1, h2, _⟩, _⟩ := I.list hq
    exact PySem.W.kia_one PySem.W.kitx_list I.kIn ⟨o, h1, h2⟩ e (fun z => nomatch z) q
  | tup hq _ =>
    cases rx
    obtain ⟨its, _, ⟨o, h1, h2, _⟩, _⟩ := I.tuple hq
    exact PySem.W.kia_one PySem.W.kitx_tuple I.kIn ⟨o, h1, h2⟩ e (fun z => nomatch z) q
  | dct hq _ =>
    cases rx
    obtain ⟨_, _, vs, _, o, es, ep, h1, h2, _⟩ := dk_rd I.hok hq
    exact PySem.W.kia_one PySem.W.kitx_dict I.kIn ⟨o, h1, h2.1⟩ e (fun z => nomatch z) q
/-- isinstance(x, T) of data -/
theorem call_isi : CallR X (.builtin "isinstance") (fun xs H Q => ∃ x d b, xs = [x, .ty b] ∧ Rep X.K H x d ∧ tyOk b = true ∧ Q (.bl (isiB d.ty b)) H) := by
  rintro pins s σ H xs us Q I r ⟨x, d, b, rfl, rd, hb, q⟩
  obtain ⟨u, v, rfl, ru, rv⟩ := vals2 r
  cases rv
  exact isi_rep I ru rd hb fun tk => ⟨.bl _, H, I.tok tk, rfl, q⟩

/-! ### all(list of bools) -/
theorem call_all : CallR X (.builtin "all") (fun xs H Q => X.calm = true ∧ ∃ (a : Addr) (bs : List Bool), xs = [.ref a] ∧ SqL X.K H a (bs.map V.bl) ∧ Q (.bl (bs.all id)) H) := by
  rintro pins s σ H xs us Q I r ⟨hc, a, bs, rfl, hq, q⟩
  obtain ⟨u, rfl, ru⟩ := vals1 r
  cases ru
  obtain ⟨its, rv, p, hz⟩ := I.list hq
  have hl := rv.length
  rw [List.length_map] at hl
  refine call_all_walk (wpAny_pyIter_list p.isList ⟨s.heap.objs.size, _, _, _, _, _, fun i => bs.getD i true, rfl, Walks.list (A := X.A.in1) (show X.A.in1.handled = none from I.ok.hd hc) s.heap.objs.size a (Nat.ne_of_lt (Heap.lt_size p.choose_spec.choose_spec.1)) its.toArray, ⟨⟨_, Heap.get?_push_size _ rfl, rfl, rfl⟩, ?_⟩, ?_, ?_⟩)
  · obtain ⟨o, n, e, c, d, dd⟩ := p
    exact ⟨o, Heap.get?_push_of_some _ e, c, n, dd⟩
  · intro i v s' R E' hv hR
    have hv' : its[i]? = some v := by simpa using hv
    have hi : i < bs.length := by rw [hl]; exact (List.getElem?_eq_some_iff.mp hv').1
    have hb : (bs.map V.bl)[i]? = some (V.bl bs[i]) := by simp [hi]
    obtain ⟨w', hw, rw'⟩ := rv.get hb
    rw [hv'] at hw
    cases hw
    cases rw'
    refine wpAny_truthy_bool ?_
    have : bs.getD i true = bs[i] := by simp [hi]
    rw [← this]; exact hR
  · intro h' tk hk
    have e1 : ((List.range its.toArray.size).all fun i => bs.getD i true) = bs.all id := by
      rw [List.size_toArray, ← hl]
      apply Bool.eq_iff_iff.mpr
      simp only [List.all_eq_true, List.mem_range, id]
      constructor
      · intro h x hx
        obtain ⟨i, hi, rfl⟩ := List.mem_iff_getElem.mp hx
        have := h i hi
        simpa [hi] using this
      · intro h i hi
        have := h bs[i] (List.getElem_mem hi)
        simpa [hi] using this
    rw [e1]
    refine ⟨.bl _, H, I.kept (t' := tk) fun b o e => hk b o (fun z => ?_) (Heap.get?_push_of_some _ e), rfl, q⟩
    have z' : b = s.heap.objs.size := by simpa using z
    exact absurd (Heap.lt_size e) (by rw [z']; exact Nat.lt_irrefl _)
end
end L2

set_option Elab.async false
set_option linter.all false
set_option maxRecDepth 100000
namespace L2
open PySem PySem.Spec PyProof.Rows
/-! ### the order of texts -/
def sLt (a b : Str) : Prop := a.cps.toList < b.cps.toList
def sLe (a b : Str) : Prop := a.cps.toList ≤ b.cps.toList
instance (a b : Str) : Decidable (sLt a b) := inferInstanceAs (Decidable (a.cps.toList < b.cps.toList))
instance (a b : Str) : Decidable (sLe a b) := inferInstanceAs (Decidable (a.cps.toList ≤ b.cps.toList))
theorem Str.ext' {a b : Str} (h : a.cps.toList = b.cps.toList) : a = b := by
  obtain ⟨x⟩ := a; obtain ⟨y⟩ := b
  have : x = y := by obtain ⟨x⟩ := x; obtain ⟨y⟩ := y; exact congrArg Array.mk h
  rw [this]
theorem sLe_antisymm {a b : Str} (h : sLe a b) (h' : sLe b a) : a = b := Str.ext' (List.le_antisymm h h')
theorem sLe_total (a b : Str) : sLe a b ∨ sLe b a := List.le_total _ _
theorem sLt_irrefl (a : Str) : ¬ sLt a a := List.lt_irrefl _
theorem sLt_iff {a b : Str} : sLt a b ↔ ¬ sLe b a := by unfold sLt sLe; exact List.not_le.symm
theorem sLt_trans {a b c : Str} (h : sLt a b) (h' : sLt b c) : sLt a c := List.lt_trans h h'
theorem sLt_of_le_ne {a b : Str} (h : sLe a b) (n : a ≠ b) : sLt a b := sLt_iff.mpr fun h' => n (sLe_antisymm h h')
theorem sLt_or {a b : Str} : sLt a b ∨ a = b ∨ sLt b a := by
  by_cases e : a = b
  · exact .inr (.inl e)
  · rcases sLe_total a b with h | h
    · exact .inl (sLt_of_le_ne h e)
    · exact .inr (.inr (sLt_of_le_ne h (fun q => e q.symm)))
def sortS (l : List Str) : List Str := l.mergeSort fun a b => decide (sLe a b)
theorem sortS_perm (l : List Str) : (sortS l).Perm l := List.mergeSort_perm _ _
theorem mem_sortS {l : List Str} {x : Str} : x ∈ sortS l ↔ x ∈ l := (sortS_perm l).mem_iff
theorem sortS_nodup {l : List Str} (h : l.Nodup) : (sortS l).Nodup := (sortS_perm l).nodup_iff.mpr h

section
variable {X : Cx}
theorem strsAre_of : ∀ {ss : List Str} {us : List Value}, Vals (ss.map V.str) us → StrsAre us ss
  | [], _, h => by cases h; exact .nil
  | s :: r, _, h => by
    cases h with
    | cons h t => obtain ⟨tk, rfl⟩ := h; exact .cons _ _ (strsAre_of t)
/-- the keys of a dict of texts -/
def keysS (kvs : List (Key × V)) (ks : List Str) : Prop := kvs.map (·.1) = ks.map Sum.inr
theorem keysS.get {kvs : List (Key × V)} {ks : List Str} (h : keysS kvs ks) {i : Nat} {k : Key} {v : V} (e : kvs[i]? = some (k, v)) : ∃ x, ks[i]? = some x ∧ k = Sum.inr x := by
  have : (kvs.map (·.1))[i]? = some k := by rw [List.getElem?_map, e]; rfl
  rw [h, List.getElem?_map] at this
  cases q : ks[i]? with
  | none => rw [q] at this; cases this
  | some x => rw [q] at this; exact ⟨x, rfl, (Option.some.inj this).symm⟩
theorem keysS.length {kvs : List (Key × V)} {ks : List Str} (h : keysS kvs ks) : kvs.length = ks.length := by
  have := congrArg List.length h
  simpa using this
end
end L2

set_option Elab.async false
set_option linter.all false
set_option maxRecDepth 100000
/-! TEXTS (own work) -/
namespace L2
open PySem PySem.Spec PyProof.Rows PySem.Builtin.Str
/-- the list of a text's signs, and back -/
abbrev cs (x : Str) : List Nat := x.cps.toList
abbrev ofC (l : List Nat) : Str := ⟨l.toArray⟩
theorem cs_ofC (l : List Nat) : cs (ofC l) = l := rfl
theorem cs_len (x : Str) : (cs x).length = x.length := by obtain ⟨x⟩ := x; rfl
theorem cs_append (x y : Str) : cs (x ++ y) = cs x ++ cs y := by
  obtain ⟨x⟩ := x; obtain ⟨y⟩ := y
  show (x ++ y).toList = x.toList ++ y.toList
  simp
/-- x[lo:hi] -/
def cutC {α : Type} (l : List α) (lo hi : Option Int) : List α := (l.drop (HT.sIx l.length 0 lo)).take (HT.sIx l.length l.length hi - HT.sIx l.length 0 lo)
def cutS (x : Str) (lo hi : Option Int) : Str := ofC (cutC (cs x) lo hi)
theorem cutC_len {α : Type} (l : List α) (lo hi : Option Int) : (cutC l lo hi).length ≤ l.length := by
  unfold cutC
  rw [List.length_take, List.length_drop]
  omega
theorem clip1 (lo : Option Int) (n d : Nat) (hd : d ≤ n) : (match lo with | none => (d : Int) | some i => (let i := if i < 0 then i + n else i; if (1 : Int) > 0 then max 0 (min i n) else max (-1) (min i ((n : Int) - 1)))) = ((HT.sIx n d lo : Nat) : Int) := by
  cases lo with
  | none => rfl
  | some i =>
    show (if (1 : Int) > 0 then max 0 (min (if i < 0 then i + (n : Int) else i) n) else _) = _
    rw [if_pos (by decide)]
    unfold HT.sIx
    by_cases h : i < 0
    · simp only [h, if_true]; omega
    · simp only [h, if_false]; omega
theorem indices_cut (lo hi : Option Int) (n : Nat) : strSliceIndices lo hi 1 n = (List.range (HT.sIx n n hi - HT.sIx n 0 lo)).map fun k => HT.sIx n 0 lo + k := by
  have e1 := clip1 lo n 0 (Nat.zero_le _)
  have e2 := clip1 hi n n (Nat.le_refl _)
  have : strSliceIndices lo hi 1 n = sliceRange ((HT.sIx n 0 lo : Nat) : Int) ((HT.sIx n n hi : Nat) : Int) 1 := by
    rw [← e1, ← e2]
    cases lo <;> cases hi <;> rfl
  rw [this]
  unfold sliceRange
  generalize HT.sIx n 0 lo = a
  generalize HT.sIx n n hi = b
  by_cases h : (a : Int) < b
  · simp only [show ((1 : Int) > 0) = True by simp, if_true, h]
    have e3 : (((b : Int) - a + 1 - 1) / 1).toNat = b - a := by omega
    rw [e3]
    apply List.map_congr_left
    intro k _
    omega
  · simp only [show ((1 : Int) > 0) = True by simp, if_true, h, if_false]
    have e3 : b - a = 0 := by omega
    rw [e3]
    rfl
theorem picked_cut (x : Str) (l u : Option (Int × Tok)) : (slicePicked x l u none).filterMap (x.cps[·]?) = cutC (cs x) (l.map (·.1)) (u.map (·.1)) := by
  unfold slicePicked cutC
  show (strSliceIndices (l.map (·.1)) (u.map (·.1)) 1 x.length).filterMap _ = _
  rw [indices_cut, cs_len]
  have hle := HT.sIx_le x.length x.length (Nat.le_refl _) (u.map (·.1))
  generalize HT.sIx x.length 0 (l.map (·.1)) = a at *
  generalize HT.sIx x.length x.length (u.map (·.1)) = b at *
  have e : (fun (i : Nat) => x.cps[i]?) = fun (i : Nat) => (cs x)[i]? := by funext i; simp [cs]
  rw [e]
  by_cases h : a ≤ b
  · exact StrLaws.picks (cs x) (b - a) a (by rw [cs_len]; omega)
  · have e3 : b - a = 0 := by omega
    rw [e3]; simp
section
variable {X : Cx}
/-- x[lo:hi] of a text -/
theorem sl_str : SlR X (fun x lo hi H Q => ∃ z, x = .str z ∧ z.length ≤ sizeLine ∧ Q (.str (cutS z lo hi)) H) := by
  rintro pins s σ H x v vl vu lo hi sl Q I rx hs pl pu ⟨z, rfl, hz, q⟩
  obtain ⟨t, rfl⟩ := rx
  refine ⟨"str", _, PySem.F.slot_str_getitem.lookup, typeIs_str s z t, ?_⟩
  obtain ⟨l, hl1, hl2⟩ : ∃ l : Option (Int × Tok), vl = partValue l ∧ lo = l.map (·.1) := by
    cases pl with
    | none => exact ⟨none, rfl, rfl⟩
    | int i t => exact ⟨some (i, t), rfl, rfl⟩
  obtain ⟨u, hu1, hu2⟩ : ∃ l : Option (Int × Tok), vu = partValue l ∧ hi = l.map (·.1) := by
    cases pu with
    | none => exact ⟨none, rfl, rfl⟩
    | int i t => exact ⟨some (i, t), rfl, rfl⟩
  subst hl1 hl2 hu1 hu2
  refine wpAny_getItem_str_slice (l := l) (u := u) (st := none) hs (by rfl) ?_
  unfold sliceMade
  split
  · rename_i hw
    have hw' : (slicePicked z l u none).length = z.length := by simpa using hw
    have e : cutS z (l.map (·.1)) (u.map (·.1)) = z := by
      have hp := picked_cut z l u
      unfold cutS
      have hlen : (cutC (cs z) (l.map (·.1)) (u.map (·.1))) = cs z := by
        unfold slicePicked at hw'
        rw [show ((none : Option (Int × Tok)).map (·.1)).getD 1 = (1 : Int) from rfl, indices_cut, List.length_map, List.length_range] at hw'
        have h1 := HT.sIx_le z.length z.length (Nat.le_refl _) (u.map (·.1))
        unfold cutC
        rw [cs_len]
        generalize HT.sIx z.length 0 (l.map (·.1)) = a at *
        generalize HT.sIx z.length z.length (u.map (·.1)) = b at *
        have ha : a = 0 ∨ z.length = 0 := by omega
        rcases ha with ha | ha
        · subst ha
          rw [List.drop_zero, List.take_of_length_le (by rw [cs_len]; omega)]
        · have : cs z = [] := List.eq_nil_of_length_eq_zero (by rw [cs_len]; exact ha)
          rw [this]
          simp
      rw [hlen]
    rw [e] at q
    exact ⟨.str z, H, I, ⟨t, rfl⟩, q⟩
  · rw [picked_cut]
    refine ⟨?_, .str _, H, I.tok _, ⟨_, rfl⟩, q⟩
    have := cutC_len (cs z) (l.map (·.1)) (u.map (·.1))
    rw [cs_len] at this
    show (cutC (cs z) (l.map (·.1)) (u.map (·.1))).toArray.size ≤ _
    rw [List.size_toArray]
    omega
/-- sep.join(list of texts) -/
def joinS : Str → List Str → Str := Txt.join
theorem mt_join : MtR X "str.join" (fun x xs H Q => ∃ (sep : Str) (a : Addr) (ss : List Str), x = .str sep ∧ xs = [.ref a] ∧ SqL X.K H a (ss.map V.str) ∧ (ss.map (·.length)).sum + ss.length * sep.length ≤ 16777216 ∧ Q (.str (joinS sep ss)) H) := by
  rintro pins s σ H x xs v us Q I rx rv ⟨sep, a, ss, rfl, rfl, hq, hz, q⟩
  obtain ⟨t, rfl⟩ := rx
  obtain ⟨u, rfl, ru⟩ := vals1 rv
  cases ru
  obtain ⟨its, rr, p, _⟩ := I.list hq
  exact join_list p.isList (by simpa using strsAre_of rr) hz fun t' k => ⟨.str _, H, I.tok _, ⟨_, rfl⟩, q⟩
end
/-- the signs of a text -/
def Its (x : Str) : It := ⟨fun i _ => i < x.length, fun i H v H' => H' = H ∧ ∃ c, (cs x)[i]? = some c ∧ v = .str ⟨#[c]⟩, fun i _ => x.length ≤ i⟩
theorem cps_get (x : Str) (i : Nat) : x.cps[i]? = (cs x)[i]? := by simp [cs]
theorem striter_nocell {h : Heap} {it : Addr} {ty : String} {x : Str} {t : Tok} {i : Nat} (y : h.IsStrIter it ty x t i) : ∃ o, h.get? it = some o ∧ ∀ v, o.data ≠ .cell v := by
  obtain ⟨o, e, c, q⟩ := y
  exact ⟨o, e, fun v z => by rw [q] at z; cases z⟩
theorem IsStrIter.at {h h' : Heap} {it : Addr} {ty : String} {x : Str} {t : Tok} {i : Nat} (y : h.IsStrIter it ty x t i) (e : ∀ o, h.get? it = some o → h'.get? it = some o) : h'.IsStrIter it ty x t i := let ⟨o, ho, r⟩ := y; ⟨o, e _ ho, r⟩
theorem turn_str {P : Program} {w : World} {K : PySem.W.Frag} {tg : Expr} (it : Addr) (x : Str) (t : Tok) (ty : String) (hty : ty = "str_ascii_iterator" ∨ ty = "str_iterator") : Turn P w K tg (Its x) [it] it (fun i h => h.IsStrIter it ty x t i) where
  mem := by simp
  obj := fun i h st b hb => by
    have e : b = it := by simpa using hb
    subst e
    exact striter_nocell st
  keep := fun i h h' st k => IsStrIter.at st fun o e => k it (by simp) o e
  item := by
    intro X hP hw hK hc i pins s σ H E I hf st hg
    subst hP hw hK
    have hi : i < x.length := hg
    obtain ⟨c, hx⟩ : ∃ c, (cs x)[i]? = some c := ⟨(cs x)[i]'(by rw [cs_len]; exact hi), by simp [cs_len, hi]⟩
    obtain ⟨f0, f1, f2, f3, f4, f5⟩ := hf it (by simp)
    have fin : ∀ h', h'.IsStrIter it ty x t (i + 1) → Heap.SameBut it s.heap h' → ∃ u, some (Value.str ⟨#[c]⟩ s.toks) = some u ∧ wpAny (model X.prog X.w) X.A (letOwnedTupleGo tg (.ref it) u) (fun _ s2 => ∃ y H', Inv X pins σ H' s2 ∧ RelV y u ∧ (Its x).yld i H y H' ∧ s2.heap.IsStrIter it ty x t (i + 1) ∧ ∀ b ∈ [it], H' b = none) E { s with heap := h', toks := s.toks + 1 } := fun h' st' sb => by
      have I1 : Inv X pins σ H { s with heap := h', toks := s.toks + 1 } := I.turned (fun b o hb e => (sb.2 b hb).trans e) f0 f1 f3 f4 f5
      obtain ⟨o2, e2, c2, d2⟩ := id st'
      refine ⟨_, rfl, go_of (s := { s with heap := h', toks := s.toks + 1 }) e2 c2 d2 (by rcases hty with rfl | rfl <;> decide) ⟨.str ⟨#[c]⟩, H, I1, ⟨_, rfl⟩, ⟨rfl, c, hx, rfl⟩, st', fun b hb => (hf b hb).1⟩⟩
    rcases hty with rfl | rfl
    · exact wpAny_pyNext_ascii_item st (by rw [cps_get]; exact hx) fin
    · exact wpAny_pyNext_wide_item st (by rw [cps_get]; exact hx) fin
  done := by
    intro X hP hw hK hc i pins s σ H E I hf st hg
    subst hP hw hK
    have hi : x.length ≤ i := hg
    obtain ⟨f0, f1, f2, f3, f4, f5⟩ := hf it (by simp)
    have hx : x.cps[i]? = none := by rw [cps_get]; exact List.getElem?_eq_none (by rw [cs_len]; exact hi)
    rcases hty with rfl | rfl
    · exact wpAny_pyNext_ascii_end (I.ok.hd hc) st hx fun h' eb => ⟨rfl, I.turned (t' := s.toks) (fun b o hb e => eb b o hb e) f0 f1 f3 f4 f5⟩
    · exact wpAny_pyNext_wide_end (I.ok.hd hc) st hx fun h' eb => ⟨rfl, I.turned (t' := s.toks) (fun b o hb e => eb b o hb e) f0 f1 f3 f4 f5⟩
  self := fun _ _ _ _ _ st h => by
    rcases hty with rfl | rfl
    · exact wpAny_pyIter_striter_ascii st h
    · exact wpAny_pyIter_striter_wide st h
def iStr (tl : TE) : TI := fun σ H R => tl σ H fun v H1 => ∃ x, v = .str x ∧ R (Its x) H1
section
variable {X : Cx} {tg : Expr}
theorem pi_str {l : Expr} {tl : TE} (hl : PE X l tl) : PI X tg l (iStr tl) := by
  intro pins s σ H R I h
  refine thn (hl pins s σ H _ I h) fun v s1 ⟨y, H1, I1, r1, x, e, q⟩ => ?_
  subst e
  obtain ⟨t, rfl⟩ := r1
  have fin : ∀ (ty : String) (hty : ty = "str_ascii_iterator" ∨ ty = "str_iterator"), PIE X pins σ tg R (.ref s1.heap.objs.size) { s1 with heap := s1.heap.push { cls := .type ty, data := .fields #[.str x t, .int 0 0] } } := fun ty hty => by
    refine ⟨s1.heap.objs.size, [s1.heap.objs.size], _, _, H1, rfl, I1.kept (t' := s1.toks) fun b o e => Heap.get?_push_of_some _ e, turn_str _ x t ty hty, ⟨_, Heap.get?_push_size _ rfl, rfl, rfl⟩, fun b hb => ?_, q⟩
    have e : b = s1.heap.objs.size := by simpa using hb
    subst e
    exact I1.fpOk (Nat.le_refl _) (I1.hok.fresh (Nat.le_refl _))
  cases ha : x.cps.all (· < 128) with
  | true => exact wpAny_pyIter_ascii ha (fin _ (.inl rfl))
  | false => exact wpAny_pyIter_wide ha (fin _ (.inr rfl))
end
end L2

set_option Elab.async false
set_option linter.all false
set_option maxRecDepth 100000
namespace L2
open PySem PySem.Spec PyProof.Rows
/-! ### the names of Python's own -/
theorem boot_isinstance' : bootBuiltins "isinstance" = some (.builtin "isinstance") := by decide +kernel
theorem boot_len' : bootBuiltins "len" = some (.builtin "len") := by decide +kernel
theorem boot_max' : bootBuiltins "max" = some (.builtin "max") := by decide +kernel
theorem boot_min' : bootBuiltins "min" = some (.builtin "min") := by decide +kernel
theorem boot_all' : bootBuiltins "all" = some (.builtin "all") := by decide +kernel
theorem boot_ty_str : bootBuiltins "str" = some (.type "str") := by decide +kernel
theorem boot_ty_int : bootBuiltins "int" = some (.type "int") := by decide +kernel
theorem boot_ty_bool : bootBuiltins "bool" = some (.type "bool") := by decide +kernel
/-- a def of the top: how it stands, how it binds, its name -/
structure Top (K : PySem.W.Frag) (mg : Str → Option Value) (nm : Str) (st : Stmt) (ps : List Str) (f : Addr) (fd : FuncData) : Prop where
  fn : Fun K nm nm st f fd
  bd : Binds K fd ps []
  mg : mg nm = some (.ref f)
theorem Top.kp {K : PySem.W.Frag} {mg : Str → Option Value} {nm : Str} {st : Stmt} {ps : List Str} {f : Addr} {fd : FuncData} (T : Top K mg nm st ps f fd) : PySem.W.keepIn K (.ref f) = true := T.fn.kp
section
variable {X : Cx}
/-- for v in d.values(): as over the keys -/
def tForV (te : TE) (g : TG) (tb : TS) : TS := fun D σ H => te σ H fun x H1 => ∃ a kvs, x = .ref a ∧ Rd H1 a (.dK kvs) ∧ ∀ o H2, Fzn a o kvs H1 H2 → LoopVC (Itv a o kvs) g tb (thawE a o kvs H1 D) σ H2
end
section
variable {X : Cx} {tg : Expr}
end
end L2

set_option Elab.async false
set_option linter.all false
set_option maxRecDepth 100000
/-! NETS: dicts of dicts of ints, with texts as keys (own work) -/
namespace L2
open PySem PySem.Spec PyProof.Rows
abbrev Row := List (Str × Int)
def look (l : Row) (k : Str) : Option Int := (l.find? fun e => decide (e.1 = k)).map (·.2)
def put (l : Row) (k : Str) (v : Int) : Row := if (l.any fun e => decide (e.1 = k)) = true then l.map (fun e => if e.1 = k then (e.1, v) else e) else l ++ [(k, v)]
def encI (l : Row) : List (Key × V) := l.map fun e => (Sum.inr e.1, .int e.2)
def rowD (l : Row) : D := .dct (l.map fun e => (Sum.inr e.1, .int e.2))
theorem look_nil (k : Str) : look [] k = none := rfl
theorem look_cons (x : Str) (y : Int) (r : Row) (k : Str) : look ((x, y) :: r) k = if x = k then some y else look r k := by
  unfold look
  rw [List.find?_cons]
  by_cases h : x = k
  · rw [decide_eq_true h, if_pos h]; rfl
  · rw [decide_eq_false h, if_neg h]
theorem any_look (l : Row) (k : Str) : (l.any fun e => decide (e.1 = k)) = (look l k).isSome := by
  induction l with
  | nil => rfl
  | cons e r ih =>
    obtain ⟨x, y⟩ := e
    rw [List.any_cons, look_cons, ih]
    by_cases h : x = k
    · simp [h]
    · simp [h]
theorem look_append (l l' : Row) (k : Str) : look (l ++ l') k = (look l k).or (look l' k) := by
  induction l with
  | nil => simp [look_nil]
  | cons e r ih =>
    obtain ⟨x, y⟩ := e
    rw [List.cons_append, look_cons, look_cons, ih]
    by_cases h : x = k
    · simp [h]
    · simp [h]
theorem look_repl (l : Row) (k : Str) (v : Int) (j : Str) : look (l.map fun e => if e.1 = k then (e.1, v) else e) j = if k = j then (look l k).map (fun _ => v) else look l j := by
  induction l with
  | nil => by_cases h : k = j <;> simp [look_nil, h]
  | cons e r ih =>
    obtain ⟨x, y⟩ := e
    by_cases h : x = k
    · subst h
      rw [List.map_cons, if_pos rfl, look_cons, look_cons, look_cons, ih]
      by_cases h2 : x = j
      · simp [h2]
      · simp [h2]
    · rw [List.map_cons, if_neg h, look_cons, look_cons, look_cons, ih]
      by_cases h2 : x = j
      · subst h2
        have : ¬ k = x := fun q => h q.symm
        simp [h, this]
      · by_cases h3 : k = j
        · simp [h2, h3, h]
        · simp [h2, h3, h]
theorem look_put (l : Row) (k : Str) (v : Int) (j : Str) : look (put l k v) j = if k = j then some v else look l j := by
  unfold put
  rw [any_look]
  cases h : look l k with
  | some w =>
    rw [if_pos (by simp), look_repl, h]
    rfl
  | none =>
    rw [if_neg (by simp), look_append, look_cons, look_nil]
    by_cases c : k = j
    · subst c; simp [h]
    · simp [c]
theorem put_keys_in {l : Row} {k : Str} {v : Int} (h : (look l k).isSome = true) : (put l k v).map (·.1) = l.map (·.1) := by
  unfold put
  rw [any_look, if_pos h, List.map_map]
  apply List.map_congr_left
  intro e _
  show (if e.1 = k then (e.1, v) else e).1 = e.1
  by_cases c : e.1 = k <;> simp [c]
theorem put_keys_new {l : Row} {k : Str} {v : Int} (h : look l k = none) : (put l k v).map (·.1) = l.map (·.1) ++ [k] := by
  unfold put
  rw [any_look, h, if_neg (by simp), List.map_append]
  rfl
theorem look_mem {l : Row} {k : Str} {v : Int} (h : look l k = some v) : (k, v) ∈ l := by
  induction l with
  | nil => cases h
  | cons e r ih =>
    obtain ⟨a, b⟩ := e
    rw [look_cons] at h
    by_cases c : a = k
    · rw [if_pos c] at h; cases h; subst c; exact List.mem_cons_self
    · rw [if_neg c] at h; exact List.mem_cons_of_mem _ (ih h)
theorem look_none {l : Row} {k : Str} : look l k = none ↔ k ∉ l.map (·.1) := by
  induction l with
  | nil => simp [look_nil]
  | cons e r ih =>
    obtain ⟨a, b⟩ := e
    rw [look_cons]
    by_cases c : a = k
    · subst c; simp
    · rw [if_neg c, ih]
      have c' : ¬ k = a := fun q => c q.symm
      simp [c']
theorem look_some_iff {l : Row} {k : Str} : (∃ v, look l k = some v) ↔ k ∈ l.map (·.1) := by
  constructor
  · rintro ⟨v, h⟩; exact List.mem_map.mpr ⟨_, look_mem h, rfl⟩
  · intro h
    cases e : look l k with
    | none => exact absurd h (look_none.mp e)
    | some v => exact ⟨v, rfl⟩
theorem put_nodup {l : Row} (k : Str) (v : Int) (h : (l.map (·.1)).Nodup) : ((put l k v).map (·.1)).Nodup := by
  cases e : look l k with
  | some w => rw [put_keys_in (by rw [e]; rfl)]; exact h
  | none => rw [put_keys_new e]; exact nd_snoc h (look_none.mp e)
theorem encI_put (l : Row) (k : Str) (v : Int) : putK (encI l) (Sum.inr k) (.int v) = encI (put l k v) := by
  unfold putK put
  have e1 : ((encI l).any fun kv => decide (kv.1 = (Sum.inr k : Key))) = l.any fun e => decide (e.1 = k) := by
    unfold encI
    rw [List.any_map]
    congr 1
    funext e
    exact key_rr e.1 k
  rw [e1]
  split
  · unfold encI
    rw [List.map_map, List.map_map]
    apply List.map_congr_left
    intro e _
    show (if (Sum.inr e.1 : Key) = Sum.inr k then ((Sum.inr e.1 : Key), V.int v) else (Sum.inr e.1, V.int e.2)) = (Sum.inr (if e.1 = k then (e.1, v) else e).1, V.int (if e.1 = k then (e.1, v) else e).2)
    by_cases c : e.1 = k
    · simp [c]
    · simp [c]
  · unfold encI
    rw [List.map_append]
    rfl
theorem encI_len (l : Row) : (encI l).length = l.length := by simp [encI]
/-- places and their rows -/
abbrev Outer := List (Str × Addr)
def encO (bs : Outer) : List (Key × V) := bs.map fun p => (Sum.inr p.1, .ref p.2)
def addrOf (bs : Outer) (x : Str) : Option Addr := (bs.find? fun e => decide (e.1 = x)).map (·.2)
theorem addrOf_cons (x : Str) (y : Addr) (r : Outer) (k : Str) : addrOf ((x, y) :: r) k = if x = k then some y else addrOf r k := by
  unfold addrOf
  rw [List.find?_cons]
  by_cases h : x = k
  · rw [decide_eq_true h, if_pos h]; rfl
  · rw [decide_eq_false h, if_neg h]
theorem addrOf_mem {bs : Outer} {x : Str} {b : Addr} (h : addrOf bs x = some b) : (x, b) ∈ bs := by
  induction bs with
  | nil => cases h
  | cons e r ih =>
    obtain ⟨a, b'⟩ := e
    rw [addrOf_cons] at h
    by_cases c : a = x
    · rw [if_pos c] at h; cases h; subst c; exact List.mem_cons_self
    · rw [if_neg c] at h; exact List.mem_cons_of_mem _ (ih h)
theorem addrOf_none {bs : Outer} {x : Str} : addrOf bs x = none ↔ x ∉ bs.map (·.1) := by
  induction bs with
  | nil => simp [addrOf]
  | cons e r ih =>
    obtain ⟨a, b⟩ := e
    rw [addrOf_cons]
    by_cases c : a = x
    · subst c; simp
    · rw [if_neg c, ih]
      have c' : ¬ x = a := fun q => c q.symm
      simp [c']
theorem addrOf_some {bs : Outer} {x : Str} (h : x ∈ bs.map (·.1)) : ∃ b, addrOf bs x = some b := by
  cases e : addrOf bs x with
  | none => exact absurd h (addrOf_none.mp e)
  | some b => exact ⟨b, rfl⟩
/-- a net stands at a, to be read -/
structure NetR (H : Hp) (a : Addr) (bs : Outer) (f : Str → Row) : Prop where
  out : Rd H a (.dK (encO bs))
  inn : ∀ p ∈ bs, Rd H p.2 (.dK (encI (f p.1)))
  ks : (bs.map (·.1)).Nodup
/-- .. of which all dicts are apart and not held -/
structure NetAt (H : Hp) (a : Addr) (bs : Outer) (f : Str → Row) : Prop where
  out : H a = some (.dK (encO bs))
  inn : ∀ p ∈ bs, H p.2 = some (.dK (encI (f p.1)))
  ks : (bs.map (·.1)).Nodup
  nd : (a :: bs.map (·.2)).Nodup
theorem NetAt.r {H : Hp} {a : Addr} {bs : Outer} {f : Str → Row} (n : NetAt H a bs f) : NetR H a bs f := ⟨.inl n.out, fun p hp => .inl (n.inn p hp), n.ks⟩
theorem NetR.sm {H H' : Hp} {a : Addr} {bs : Outer} {f : Str → Row} (n : NetR H a bs f) (s : Sm H H') : NetR H' a bs f := ⟨s.dK _ _ n.out, fun p hp => s.dK _ _ (n.inn p hp), n.ks⟩
theorem NetAt.same {H H' : Hp} {a : Addr} {bs : Outer} {f : Str → Row} (n : NetAt H a bs f) (s : Same H H') : NetAt H' a bs f := ⟨s _ _ n.out, fun p hp => s _ _ (n.inn p hp), n.ks, n.nd⟩
theorem NetR.keys {H : Hp} {a : Addr} {bs : Outer} {f : Str → Row} (n : NetR H a bs f) : keysS (encO bs) (bs.map (·.1)) := by
  unfold keysS encO; rw [List.map_map, List.map_map]; rfl
/-- the data of a net -/
def netD (ks : List Str) (f : Str → Row) : D := .dct (ks.map fun x => (Sum.inr x, rowD (f x)))
end L2
namespace L2
open PySem PySem.Spec PyProof.Rows
theorem top_mk {K : PySem.W.Frag} {h : Heap} {mg : Str → Option Value} {nm : Str} {st : Stmt} {ps : List Str} {f : Addr} {oc : Value} {od an : Option Addr} {osl : Array (Option Value)} {kV doc pm cdv ct : Value} (X : K.In h) (G : h.Ns mainGlobals mg)
    (a : PySem.W.nsIn K mainGlobals nm = some (some (.ref f))) (l : K.lookup f = some ⟨oc, od, .func (PySem.W.fnOf nm nm (defArgs st) (defBody st) (defScope st) .none kV doc pm an cdv ct), osl⟩) (c : PySem.W.codeIn K cdv nm = true) (k : PySem.W.keepIn K (.ref f) = true)
    (hb : ∀ (kV doc pm : Value) (an : Option Addr) (cdv ct : Value) (us : List Value), us.length = ps.length → bindArgs (PySem.W.fnOf nm nm (defArgs st) (defBody st) (defScope st) .none kV doc pm an cdv ct) ⟨us, []⟩ = pure (ps.zip us)) :
    Top K mg nm st ps f (PySem.W.fnOf nm nm (defArgs st) (defBody st) (defScope st) .none kV doc pm an cdv ct) :=
  ⟨fun_mk (st := st) l c k, (fun_mk (st := st) l c k).binds hb, PySem.W.mg_of X G a⟩
end L2

set_option Elab.async false
set_option linter.all false
set_option maxRecDepth 100000
namespace L2
open PySem PySem.Spec PyProof.Rows
theorem iteD {p A B : Prop} [Decidable p] (h1 : p → A) (h2 : ¬ p → B) : if decide p = true then A else B := by
  by_cases h : p
  · rw [if_pos (decide_eq_true h)]; exact h1 h
  · rw [if_neg (by simpa using h)]; exact h2 h
theorem iteB {b : Bool} {A B : Prop} (h1 : b = true → A) (h2 : b = false → B) : if b = true then A else B := by
  cases b with
  | true => rw [if_pos rfl]; exact h1 rfl
  | false => rw [if_neg (by simp)]; exact h2 rfl
/-- what a turn must reach -/
def NxC (n : Nat) (Pv : Nat → List V → Hp → Prop) (i : Nat) (ys : List V) (H : Hp) : Prop := ∃ m', m' < n - i ∧ m' = n - (i + 1) ∧ i + 1 ≤ n ∧ Pv (i + 1) ys H
theorem nxC {n : Nat} {Pv : Nat → List V → Hp → Prop} {i : Nat} {ys : List V} {H : Hp} (hlt : i < n) (p : Pv (i + 1) ys H) : NxC n Pv i ys H := ⟨_, by omega, rfl, hlt, p⟩
theorem comp_inv {J : It} {g : TG} {tt : TT} {te : TE} {σ' : St} {Post : VK} {H1 : Hp} (n : Nat) (Pv : Nat → List V → Hp → Prop) (h0 : Pv 0 [] H1) (hz : ∀ i ys H, Pv i ys H → ys.length < sizeLine)
    (hgo : ∀ i ys H, i < n → Pv i ys H → J.go i H ∧ ∀ x H', J.yld i H x H' → g x σ' H' fun σ2 H2 => tt σ2 H2 fun b H3 => if b = true then te σ2 H3 fun y H4 => NxC n Pv i (ys ++ [y]) H4 else NxC n Pv i ys H3)
    (hs : ∀ ys H, Pv n ys H → J.stop n H ∧ ∀ p, H p = none → Post (.ref p) (upd H p (.lst ys))) : CompVC J g tt te σ' Post H1 := by
  refine ⟨fun i m ys H => m = n - i ∧ i ≤ n ∧ Pv i ys H, ⟨n, rfl, Nat.zero_le _, h0⟩, ?_⟩
  rintro i m ys H ⟨rfl, hi, p⟩
  refine ⟨hz i ys H p, ?_⟩
  by_cases hlt : i < n
  · exact .inr (hgo i ys H hlt p)
  · have e : i = n := by omega
    subst e
    exact .inl (hs ys H p)
end L2

set_option Elab.async false
set_option linter.all false
set_option maxRecDepth 100000
set_option maxHeartbeats 4000000
/-! what the law's own helpers come to: names, nets, lines (own work) -/
namespace L2
open PySem PySem.Spec PyProof.Rows
/-! ### names -/
def isNm (x : Str) : Prop := 1 ≤ x.length ∧ x.length ≤ 8 ∧ ∀ c ∈ cs x, 97 ≤ c ∧ c ≤ 122
def lettersS : Str := "abcdefghijklmnopqrstuvwxyz"
theorem letters_cs : cs lettersS = (List.range 26).map (97 + ·) := by decide +kernel
theorem letter_at {j : Int} (h0 : 0 ≤ j) (h1 : j < 26) : atI (cs lettersS) j = some (97 + j.toNat) := by
  obtain ⟨k, rfl⟩ := Int.eq_ofNat_of_zero_le h0
  refine atI_nat ?_
  rw [letters_cs, List.getElem?_map, List.getElem?_range (by omega)]
  simp
theorem letter_mem {c : Nat} : c ∈ cs lettersS ↔ 97 ≤ c ∧ c ≤ 122 := by
  rw [letters_cs, List.mem_map]
  constructor
  · rintro ⟨k, hk, rfl⟩
    have := List.mem_range.mp hk
    omega
  · intro h
    exact ⟨c - 97, List.mem_range.mpr (by omega), by omega⟩
/-- the names so far: the k-th has the sign at' + its own -/
def Nms (at' : Nat) (m : Int) (i : Nat) (ss : List Str) : Prop := ss.length = i ∧ ss.Nodup ∧ (∀ s ∈ ss, isNm s) ∧ ∀ s ∈ ss, ∃ j, j < i ∧ (cs s)[at']? = some (97 + ((m + (j : Int)) % 26).toNat)
theorem Nms.nil (at' : Nat) (m : Int) : Nms at' m 0 [] := ⟨rfl, List.nodup_nil, fun _ h => absurd h (by simp), fun _ h => absurd h (by simp)⟩
theorem Nms.snoc {at' : Nat} {m : Int} {i : Nat} {ss : List Str} {x : Str} (h : Nms at' m i ss) (hi : i < 26) (hx : isNm x) (hc : (cs x)[at']? = some (97 + ((m + (i : Int)) % 26).toNat)) : Nms at' m (i + 1) (ss ++ [x]) := by
  obtain ⟨h1, h2, h3, h4⟩ := h
  refine ⟨by simp [h1], nd_snoc h2 (fun hm => ?_), fun s hs => ?_, fun s hs => ?_⟩
  · obtain ⟨j, hj, e⟩ := h4 x hm
    rw [hc] at e
    have e := Option.some.inj e
    have a1 := Int.emod_nonneg (m + (i : Int)) (show (26 : Int) ≠ 0 by decide)
    have a2 := Int.emod_nonneg (m + (j : Int)) (show (26 : Int) ≠ 0 by decide)
    omega
  · rcases List.mem_append.mp hs with q | q
    · exact h3 s q
    · rw [List.mem_singleton.mp q]; exact hx
  · rcases List.mem_append.mp hs with q | q
    · obtain ⟨j, hj, e⟩ := h4 s q; exact ⟨j, by omega, e⟩
    · rw [List.mem_singleton.mp q]; exact ⟨i, by omega, hc⟩
/-! ### nets -/
structure GNet (ks : List Str) (f : Str → Row) (B : Int) : Prop where
  sym : ∀ x y, x ∈ ks → y ∈ ks → look (f x) y = look (f y) x
  irr : ∀ x, x ∈ ks → look (f x) x = none
  val : ∀ x y v, x ∈ ks → look (f x) y = some v → y ∈ ks ∧ 1 ≤ v ∧ v ≤ B
  nd : ∀ x, x ∈ ks → ((f x).map (·.1)).Nodup
theorem GNet.nil (ks : List Str) (B : Int) : GNet ks (fun _ => []) B := ⟨fun _ _ _ _ => rfl, fun _ _ => rfl, fun _ _ _ _ h => (by cases h), fun _ _ => List.nodup_nil⟩
def putR (f : Str → Row) (x y : Str) (v : Int) : Str → Row := fun z => if z = x then put (f x) y v else f z
theorem putR_at (f : Str → Row) (x y : Str) (v : Int) : putR f x y v x = put (f x) y v := by unfold putR; rw [if_pos rfl]
theorem putR_ne {f : Str → Row} {x y : Str} {v : Int} {z : Str} (h : z ≠ x) : putR f x y v z = f z := by unfold putR; rw [if_neg h]
/-- a line is laid both ways -/
def putB (f : Str → Row) (x y : Str) (v : Int) : Str → Row := putR (putR f x y v) y x v
theorem look_putB {f : Str → Row} {x y : Str} {v : Int} (h : x ≠ y) (a b : Str) : look (putB f x y v a) b = if (a = x ∧ b = y) ∨ (a = y ∧ b = x) then some v else look (f a) b := by
  unfold putB
  by_cases h1 : a = y
  · subst h1
    rw [putR_at, look_put, putR_ne (Ne.symm h)]
    by_cases h2 : x = b
    · subst h2; simp
    · have h2' : ¬ b = x := fun q => h2 q.symm
      have h3 : ¬ a = x := fun q => h q.symm
      simp [h2, h2', h3]
  · rw [putR_ne h1]
    by_cases h2 : a = x
    · subst h2
      rw [putR_at, look_put]
      by_cases h3 : y = b
      · subst h3; simp
      · have h3' : ¬ b = y := fun q => h3 q.symm
        simp [h3, h3', h1]
    · rw [putR_ne h2]; simp [h1, h2]
theorem putB_nd {f : Str → Row} {x y : Str} {v : Int} {a : Str} (hx : ((f x).map (·.1)).Nodup) (hy : ((f y).map (·.1)).Nodup) (ha : ((f a).map (·.1)).Nodup) (h : x ≠ y) : ((putB f x y v a).map (·.1)).Nodup := by
  unfold putB
  by_cases h1 : a = y
  · subst h1; rw [putR_at, putR_ne (Ne.symm h)]; exact put_nodup _ _ hy
  · rw [putR_ne h1]
    by_cases h2 : a = x
    · subst h2; rw [putR_at]; exact put_nodup _ _ hx
    · rw [putR_ne h2]; exact ha
theorem GNet.put {ks : List Str} {f : Str → Row} {B : Int} (g : GNet ks f B) {x y : Str} {v : Int} (hx : x ∈ ks) (hy : y ∈ ks) (h : x ≠ y) (h1 : 1 ≤ v) (h2 : v ≤ B) : GNet ks (putB f x y v) B := by
  refine ⟨fun a b ha hb => ?_, fun a ha => ?_, fun a b w ha hw => ?_, fun a ha => putB_nd (g.nd x hx) (g.nd y hy) (g.nd a ha) h⟩
  · rw [look_putB h, look_putB h]
    by_cases c : (a = x ∧ b = y) ∨ (a = y ∧ b = x)
    · rw [if_pos c, if_pos (by rcases c with ⟨p, q⟩ | ⟨p, q⟩ <;> simp [p, q])]
    · rw [if_neg c, if_neg (by rintro (⟨p, q⟩ | ⟨p, q⟩) <;> exact c (by simp [p, q]))]
      exact g.sym a b ha hb
  · rw [look_putB h, if_neg (by rintro (⟨p, q⟩ | ⟨p, q⟩) <;> exact h (by rw [← p, ← q]))]
    exact g.irr a ha
  · rw [look_putB h] at hw
    by_cases c : (a = x ∧ b = y) ∨ (a = y ∧ b = x)
    · rw [if_pos c] at hw
      cases hw
      refine ⟨?_, h1, h2⟩
      rcases c with ⟨p, q⟩ | ⟨p, q⟩
      · rw [q]; exact hy
      · rw [q]; exact hx
    · rw [if_neg c] at hw
      exact g.val a b w ha hw
/-! ### lines -/
abbrev Ln := Str × Str × Int
def norm (l : Ln) : Ln := if sLt l.1 l.2.1 then l else (l.2.1, l.1, l.2.2)
def lineD (l : Ln) : D := .tup [.str l.1, .str l.2.1, .int l.2.2]
def rowL (f : Str → Row) (x : Str) (ys : List Str) : List Ln := (ys.filter fun y => decide (sLt x y)).map fun y => (x, y, (look (f x) y).getD 0)
def linesF (ks : List Str) (f : Str → Row) : List Ln := (sortS ks).flatMap fun x => rowL f x (sortS ((f x).map (·.1)))
theorem mem_rowL {f : Str → Row} {x : Str} {ys : List Str} {l : Ln} : l ∈ rowL f x ys ↔ l.1 = x ∧ l.2.1 ∈ ys ∧ sLt x l.2.1 ∧ l.2.2 = (look (f x) l.2.1).getD 0 := by
  unfold rowL
  rw [List.mem_map]
  constructor
  · rintro ⟨y, hy, rfl⟩
    obtain ⟨a, b⟩ := List.mem_filter.mp hy
    exact ⟨rfl, a, of_decide_eq_true b, rfl⟩
  · rintro ⟨a, b, c, d⟩
    obtain ⟨l1, l2, l3⟩ := l
    exact ⟨l2, List.mem_filter.mpr ⟨b, decide_eq_true c⟩, by simp at a d; rw [a, d]⟩
theorem mem_linesF {ks : List Str} {f : Str → Row} {l : Ln} : l ∈ linesF ks f ↔ l.1 ∈ ks ∧ sLt l.1 l.2.1 ∧ look (f l.1) l.2.1 = some l.2.2 := by
  unfold linesF
  rw [List.mem_flatMap]
  constructor
  · rintro ⟨x, hx, hl⟩
    obtain ⟨a, b, c, d⟩ := mem_rowL.mp hl
    subst a
    refine ⟨mem_sortS.mp hx, c, ?_⟩
    obtain ⟨v, hv⟩ := look_some_iff.mpr (mem_sortS.mp b)
    rw [d, hv]; rfl
  · rintro ⟨a, b, c⟩
    refine ⟨l.1, mem_sortS.mpr a, mem_rowL.mpr ⟨rfl, mem_sortS.mpr (look_some_iff.mp ⟨_, c⟩), b, by rw [c]; rfl⟩⟩
theorem rowL_nodup {f : Str → Row} {x : Str} {ys : List Str} (h : ys.Nodup) : (rowL f x ys).Nodup := by
  unfold rowL
  refine List.Pairwise.map _ (fun a b hab e => ?_) (h.filter _)
  exact hab (by injection e with _ e; injection e)
theorem linesF_nodup {ks : List Str} {f : Str → Row} {B : Int} (hk : ks.Nodup) (g : GNet ks f B) : (linesF ks f).Nodup := by
  unfold linesF
  refine List.pairwise_flatMap.mpr ⟨fun x hx => rowL_nodup (sortS_nodup (g.nd x (mem_sortS.mp hx))), (sortS_nodup hk).imp fun {a b} hab l hl m hm e => ?_⟩
  subst e
  exact hab ((mem_rowL.mp hl).1.symm.trans (mem_rowL.mp hm).1)
/-- a line joins x and y by s -/
def Jn (ls : List Ln) (x y : Str) (s : Int) : Prop := (x, y, s) ∈ ls ∨ (y, x, s) ∈ ls
theorem norm_lt {x y : Str} {s : Int} (h : sLt x y) : norm (x, y, s) = (x, y, s) := by unfold norm; rw [if_pos h]
theorem norm_gt {x y : Str} {s : Int} (h : sLt y x) : norm (x, y, s) = (y, x, s) := by
  unfold norm; rw [if_neg (fun q => sLt_irrefl _ (sLt_trans h q))]
theorem norm_cases (l : Ln) : norm l = l ∨ norm l = (l.2.1, l.1, l.2.2) := by unfold norm; split <;> simp
/-- lines as they may be told, of the net f over ks -/
structure LinesOf (ks : List Str) (f : Str → Row) (B : Int) (ls : List Ln) : Prop where
  perm : (ls.map norm).Perm (linesF ks f)
section
variable {ks : List Str} {f : Str → Row} {B : Int} {ls : List Ln}
theorem LinesOf.jn (h : LinesOf ks f B ls) (g : GNet ks f B) {x y : Str} {s : Int} (hx : x ∈ ks) (hy : y ∈ ks) : Jn ls x y s ↔ look (f x) y = some s := by
  have key : ∀ l : Ln, l ∈ ls.map norm ↔ l.1 ∈ ks ∧ sLt l.1 l.2.1 ∧ look (f l.1) l.2.1 = some l.2.2 := fun l => (h.perm.mem_iff).trans mem_linesF
  constructor
  · rintro (q | q)
    · have := (key _).mp (List.mem_map.mpr ⟨_, q, rfl⟩)
      rcases norm_cases (x, y, s) with e | e
      · rw [e] at this; exact this.2.2
      · rw [e] at this; rw [g.sym x y hx hy]; exact this.2.2
    · have := (key _).mp (List.mem_map.mpr ⟨_, q, rfl⟩)
      rcases norm_cases (y, x, s) with e | e
      · rw [e] at this; rw [g.sym x y hx hy]; exact this.2.2
      · rw [e] at this; exact this.2.2
  · intro q
    have ne : x ≠ y := by rintro rfl; rw [g.irr x hx] at q; cases q
    have fin : ∀ l : Ln, l ∈ ls → norm l = (x, y, s) ∨ norm l = (y, x, s) → Jn ls x y s := fun l hl hn => by
      obtain ⟨a, b, c⟩ := l
      rcases norm_cases (a, b, c) with e | e <;> rw [e] at hn <;> rcases hn with hn | hn <;> cases hn
      · exact .inl hl
      · exact .inr hl
      · exact .inr hl
      · exact .inl hl
    rcases sLt_or (a := x) (b := y) with c | c | c
    · obtain ⟨l, hl, e⟩ := List.mem_map.mp ((key (x, y, s)).mpr ⟨hx, c, q⟩)
      exact fin l hl (.inl e)
    · exact absurd c ne
    · obtain ⟨l, hl, e⟩ := List.mem_map.mp ((key (y, x, s)).mpr ⟨hy, c, by rw [g.sym y x hy hx]; exact q⟩)
      exact fin l hl (.inr e)
theorem LinesOf.mem (h : LinesOf ks f B ls) (g : GNet ks f B) {l : Ln} (hl : l ∈ ls) : l.1 ∈ ks ∧ l.2.1 ∈ ks ∧ l.1 ≠ l.2.1 ∧ 1 ≤ l.2.2 ∧ l.2.2 ≤ B := by
  have := mem_linesF.mp (h.perm.mem_iff.mp (List.mem_map.mpr ⟨_, hl, rfl⟩))
  obtain ⟨a, b, c⟩ := l
  rcases norm_cases (a, b, c) with e | e <;> rw [e] at this <;> obtain ⟨p, q, r⟩ := this <;> obtain ⟨p2, p3, p4⟩ := g.val _ _ _ p r
  · exact ⟨p, p2, fun z => sLt_irrefl _ (by simpa [show a = b from z] using q), p3, p4⟩
  · exact ⟨p2, p, fun z => sLt_irrefl _ (by simpa [show a = b from z] using q), p3, p4⟩
/-- no two lines join the same places -/
def Apart (ls : List Ln) : Prop := ∀ (i j : Nat) (l m : Ln), ls[i]? = some l → ls[j]? = some m → i < j → ¬ ((l.1 = m.1 ∧ l.2.1 = m.2.1) ∨ (l.1 = m.2.1 ∧ l.2.1 = m.1))
theorem norm_eq_of {l m : Ln} (hne : l.1 ≠ l.2.1) (h : (l.1 = m.1 ∧ l.2.1 = m.2.1) ∨ (l.1 = m.2.1 ∧ l.2.1 = m.1)) (hs : l.2.2 = m.2.2) : norm l = norm m := by
  obtain ⟨a, b, c⟩ := l
  obtain ⟨a', b', c'⟩ := m
  simp only at h hs hne
  subst hs
  rcases h with ⟨rfl, rfl⟩ | ⟨rfl, rfl⟩
  · rfl
  · rcases sLt_or (a := a) (b := b) with q | q | q
    · rw [norm_lt q, norm_gt q]
    · exact absurd q hne
    · rw [norm_gt q, norm_lt q]
theorem LinesOf.apart (h : LinesOf ks f B ls) (g : GNet ks f B) (hk : ks.Nodup) : Apart ls := by
  intro i j l m hi hj hij c
  have hl := List.mem_of_getElem? hi
  have hm := List.mem_of_getElem? hj
  obtain ⟨l1, l2, l3, _⟩ := h.mem g hl
  have nd : (ls.map norm).Nodup := (h.perm.nodup_iff).mpr (linesF_nodup hk g)
  have a1 := (h.jn g (x := l.1) (y := l.2.1) (s := l.2.2) l1 l2).mp (.inl hl)
  have a2 : look (f l.1) l.2.1 = some m.2.2 := (h.jn g l1 l2).mp (by
    obtain ⟨a, b, c'⟩ := l
    obtain ⟨a', b', c''⟩ := m
    rcases c with ⟨p, q⟩ | ⟨p, q⟩
    · left; simp only at p q ⊢; rw [p, q]; exact hm
    · right; simp only at p q ⊢; rw [p, q]; exact hm)
  have es : l.2.2 = m.2.2 := Option.some.inj (a1.symm.trans a2)
  have en := norm_eq_of l3 c es
  have p := List.pairwise_iff_getElem.mp nd
  obtain ⟨hi', ei⟩ := List.getElem?_eq_some_iff.mp hi
  obtain ⟨hj', ej⟩ := List.getElem?_eq_some_iff.mp hj
  have := p i j (by simpa using hi') (by simpa using hj') hij
  rw [List.getElem_map, List.getElem_map, ei, ej] at this
  exact this en
end
theorem Jn.snoc {ls : List Ln} {l : Ln} {x y : Str} {s : Int} : Jn (ls ++ [l]) x y s ↔ Jn ls x y s ∨ ((x = l.1 ∧ y = l.2.1) ∨ (x = l.2.1 ∧ y = l.1)) ∧ s = l.2.2 := by
  obtain ⟨a, b, c⟩ := l
  unfold Jn
  simp only [List.mem_append, List.mem_singleton, Prod.mk.injEq]
  constructor
  · rintro ((h | ⟨h1, h2, h3⟩) | (h | ⟨h1, h2, h3⟩))
    · exact .inl (.inl h)
    · exact .inr ⟨.inl ⟨h1, h2⟩, h3⟩
    · exact .inl (.inr h)
    · exact .inr ⟨.inr ⟨h2, h1⟩, h3⟩
  · rintro ((h | h) | ⟨⟨h1, h2⟩ | ⟨h1, h2⟩, h3⟩)
    · exact .inl (.inl h)
    · exact .inr (.inl h)
    · exact .inl (.inr ⟨h1, h2, h3⟩)
    · exact .inr (.inr ⟨h2, h1, h3⟩)
/-- the net that the lines make, so far -/
structure MNet (ss : List Str) (ls : List Ln) (g : Str → Row) : Prop where
  jn : ∀ x y s, x ∈ ss → (look (g x) y = some s ↔ Jn ls x y s)
  nd : ∀ x, x ∈ ss → ((g x).map (·.1)).Nodup
theorem MNet.nil (ss : List Str) : MNet ss [] (fun _ => []) := ⟨fun _ _ _ _ => ⟨fun h => (by cases h), fun h => by rcases h with h | h <;> simp at h⟩, fun _ _ => List.nodup_nil⟩
theorem MNet.put {ss : List Str} {ls : List Ln} {g : Str → Row} (h : MNet ss ls g) {l : Ln} (h1 : l.1 ∈ ss) (h2 : l.2.1 ∈ ss) (hne : l.1 ≠ l.2.1) (hno : look (g l.1) l.2.1 = none) : MNet ss (ls ++ [l]) (putB g l.1 l.2.1 l.2.2) := by
  refine ⟨fun x y s hx => ?_, fun x hx => putB_nd (h.nd _ h1) (h.nd _ h2) (h.nd _ hx) hne⟩
  have no : ∀ t, ¬ Jn ls l.1 l.2.1 t := fun t q => by have := (h.jn _ _ _ h1).mpr q; rw [hno] at this; cases this
  rw [Jn.snoc, look_putB hne, ← h.jn x y s hx]
  by_cases c : (x = l.1 ∧ y = l.2.1) ∨ (x = l.2.1 ∧ y = l.1)
  · rw [if_pos c]
    constructor
    · intro e; exact .inr ⟨c, (Option.some.inj e).symm⟩
    · rintro (e | ⟨_, e⟩)
      · exfalso
        have := (h.jn x y s hx).mp e
        rcases c with ⟨p, q⟩ | ⟨p, q⟩
        · rw [p, q] at this; exact no s this
        · rw [p, q] at this; exact no s this.symm
      · rw [e]
  · rw [if_neg c]
    constructor
    · exact .inl
    · rintro (e | ⟨e, _⟩)
      · exact e
      · exact absurd e c
theorem MNet.none {ss : List Str} {ls : List Ln} {g : Str → Row} {i : Nat} {l : Ln} (h : MNet ss (ls.take i) g) (ap : Apart ls) (hi : ls[i]? = some l) (h1 : l.1 ∈ ss) : look (g l.1) l.2.1 = none := by
  cases e : look (g l.1) l.2.1 with
  | none => rfl
  | some s =>
    exfalso
    have get : ∀ m : Ln, m ∈ ls.take i → ∃ j, j < i ∧ ls[j]? = some m := fun m hm => by
      obtain ⟨j, hj⟩ := List.getElem?_of_mem hm
      rw [List.getElem?_take] at hj
      by_cases c : j < i
      · rw [if_pos c] at hj; exact ⟨j, c, hj⟩
      · rw [if_neg c] at hj; cases hj
    rcases (h.jn _ _ _ h1).mp e with q | q
    · obtain ⟨j, hj, ej⟩ := get _ q
      exact ap j i _ _ ej hi hj (.inl ⟨rfl, rfl⟩)
    · obtain ⟨j, hj, ej⟩ := get _ q
      exact ap j i _ _ ej hi hj (.inr ⟨rfl, rfl⟩)
/-- made of the lines of f it has the lines of f -/
theorem MNet.same {ks ss : List Str} {f g : Str → Row} {B : Int} {ls : List Ln} (m : MNet ss ls g) (h : LinesOf ks f B ls) (gn : GNet ks f B) (p : ss.Perm ks) {x : Str} (hx : x ∈ ss) (y : Str) : look (g x) y = look (f x) y := by
  have hx' := p.mem_iff.mp hx
  apply Option.ext
  intro s
  rw [m.jn x y s hx]
  constructor
  · intro q
    have hy : y ∈ ks := by
      rcases q with q | q
      · exact (h.mem gn q).2.1
      · exact (h.mem gn q).1
    exact (h.jn gn hx' hy).mp q
  · intro q
    have hy := (gn.val _ _ _ hx' q).1
    exact (h.jn gn hx' hy).mpr q
end L2

set_option Elab.async false
set_option linter.all false
set_option maxRecDepth 100000
set_option maxHeartbeats 4000000
/-! steps on a net's dicts (own work) -/
namespace L2
open PySem PySem.Spec PyProof.Rows
theorem nd_len {α : Type} [DecidableEq α] : ∀ {l m : List α}, l.Nodup → (∀ x ∈ l, x ∈ m) → l.length ≤ m.length
  | [], _, _, _ => Nat.zero_le _
  | x :: r, m, h, s => by
    obtain ⟨h1, h2⟩ := List.nodup_cons.mp h
    have hx := s x List.mem_cons_self
    have := nd_len (l := r) (m := m.erase x) h2 (fun y hy => (List.mem_erase_of_ne (fun (e : y = x) => h1 (by rw [← e]; exact hy))).mpr (s y (List.mem_cons_of_mem _ hy)))
    rw [List.length_erase_of_mem hx] at this
    have := List.length_pos_of_mem hx
    rw [List.length_cons]
    omega
theorem nd_inj {α β : Type} {g : α → β} : ∀ {l : List α} {a b : α}, (l.map g).Nodup → a ∈ l → b ∈ l → g a = g b → a = b
  | [], _, _, _, h, _, _ => by simp at h
  | x :: r, a, b, hn, ha, hb, e => by
    rw [List.map_cons] at hn
    obtain ⟨h1, h2⟩ := List.nodup_cons.mp hn
    rcases List.mem_cons.mp ha with p | p <;> rcases List.mem_cons.mp hb with q | q
    · rw [p, q]
    · subst p; exact absurd (List.mem_map.mpr ⟨b, q, e.symm⟩) h1
    · subst q; exact absurd (List.mem_map.mpr ⟨a, p, e⟩) h1
    · exact nd_inj h2 p q e
section
variable {H H' : Hp} {a : Addr} {bs : Outer} {f : Str → Row} {x y : Str} {b : Addr}
theorem NetAt.ne (n : NetAt H a bs f) (h : addrOf bs x = some b) : b ≠ a := fun e => by
  have := (List.nodup_cons.mp n.nd).1
  exact this (e ▸ List.mem_map.mpr ⟨_, addrOf_mem h, rfl⟩)
theorem NetAt.put (n : NetAt H a bs f) (h : addrOf bs x = some b) (v : Int) (y : Str) (hl : (f x).length < sizeLine) : DPut H b (.str y) (.int v) (upd H b (.dK (encI (put (f x) y v)))) ∧ NetAt (upd H b (.dK (encI (put (f x) y v)))) a bs (putR f x y v) := by
  have hb := n.inn _ (addrOf_mem h)
  have p := DPut.k (k := Sum.inr y) (v := .int v) hb (by rw [encI_len]; exact hl)
  rw [encI_put] at p
  refine ⟨p, ?_, fun q hq => ?_, n.ks, n.nd⟩
  · rw [upd_ne (n.ne h).symm]; exact n.out
  · by_cases e : q.2 = b
    · have : q = (x, b) := nd_inj (List.nodup_cons.mp n.nd).2 hq (addrOf_mem h) e
      subst this
      rw [upd_same, putR_at]
    · rw [upd_ne e, putR_ne (fun z => e ?_)]
      · exact n.inn q hq
      · have : q = (x, b) := nd_inj n.ks hq (addrOf_mem h) z
        rw [this]
end
/-- all of a net's addresses are new since H -/
def New (H : Hp) (a : Addr) (bs : Outer) : Prop := H a = none ∧ ∀ p ∈ bs, H p.2 = none
theorem New.same {H H' : Hp} {a : Addr} {bs : Outer} (n : New H' a bs) (s : Same H H') : New H a bs := ⟨s.free n.1, fun p hp => s.free (n.2 p hp)⟩
theorem NetR.row {H : Hp} {a : Addr} {bs : Outer} {f : Str → Row} (n : NetR H a bs f) {x : Str} (hx : x ∈ bs.map (·.1)) : ∃ b, addrOf bs x = some b ∧ Rd H b (.dK (encI (f x))) := by
  obtain ⟨b, h⟩ := addrOf_some hx
  exact ⟨b, h, n.inn _ (addrOf_mem h)⟩
/-- a Python list of lines -/
def LinesAt (K : PySem.W.Frag) (H : Hp) (p : Addr) (ls : List Ln) : Prop := ∃ xs, H p = some (.lst xs) ∧ Reps K H xs (ls.map lineD)
theorem LinesAt.same {K : PySem.W.Frag} {H H' : Hp} {p : Addr} {ls : List Ln} (h : LinesAt K H p ls) (s : Same H H') : LinesAt K H' p ls := by
  obtain ⟨xs, a, b⟩ := h; exact ⟨xs, s _ _ a, b.sm s.sm⟩
theorem Reps.line {K : PySem.W.Frag} {H : Hp} {xs : List V} {ls : List Ln} {i : Nat} {v : V} (h : Reps K H xs (ls.map lineD)) (e : xs[i]? = some v) : ∃ l a, ls[i]? = some l ∧ v = .ref a ∧ SqT K H a [.str l.1, .str l.2.1, .int l.2.2] := by
  obtain ⟨d, hd, r⟩ := h.get' e
  rw [List.getElem?_map] at hd
  cases q : ls[i]? with
  | none => rw [q] at hd; cases hd
  | some l =>
    rw [q] at hd
    cases hd
    unfold lineD at r
    cases r with
    | tup h1 h2 =>
      cases h2 with
      | cons a t => cases t with
        | cons b t => cases t with
          | cons c t => cases t; cases a; cases b; cases c; exact ⟨l, _, rfl, rfl, h1⟩
theorem Reps.perm {K : PySem.W.Frag} {H : Hp} {xs ys : List V} {ds : List D} (p : ys.Perm xs) (h : Reps K H xs ds) : ∃ es : List D, es.Perm ds ∧ Reps K H ys es := by
  induction p generalizing ds with
  | nil => cases h; exact ⟨[], .nil, .nil⟩
  | cons x _ ih =>
    cases h with
    | cons a t => obtain ⟨es, p1, p2⟩ := ih t; exact ⟨_ :: es, p1.cons _, .cons a p2⟩
  | swap x y l =>
    cases h with
    | cons a t => cases t with
      | cons b t => exact ⟨_ :: _ :: _, .swap _ _ _, .cons b (.cons a t)⟩
  | trans _ _ ih1 ih2 =>
    obtain ⟨es, p1, p2⟩ := ih2 h
    obtain ⟨es', p3, p4⟩ := ih1 p2
    exact ⟨es', p3.trans p1, p4⟩
theorem perm_map_inv {α β : Type} {g : α → β} {l : List α} {m : List β} (p : m.Perm (l.map g)) : ∃ l' : List α, l'.Perm l ∧ l'.map g = m := by
  generalize hm : l.map g = m' at p
  induction p generalizing l with
  | nil => exact ⟨[], by cases l with | nil => exact .nil | cons _ _ => simp at hm, rfl⟩
  | cons x _ ih =>
    cases l with
    | nil => simp at hm
    | cons a r =>
      simp at hm
      obtain ⟨l', p1, p2⟩ := ih hm.2
      exact ⟨a :: l', p1.cons _, by simp [p2, hm.1]⟩
  | swap x y l0 =>
    cases l with
    | nil => simp at hm
    | cons a r =>
      cases r with
      | nil => simp at hm
      | cons b r =>
        simp at hm
        exact ⟨b :: a :: r, .swap _ _ _, by simp [hm]⟩
  | trans _ _ ih1 ih2 =>
    obtain ⟨l1, p1, p2⟩ := ih2 hm
    obtain ⟨l2, p3, p4⟩ := ih1 p2
    exact ⟨l2, p3.trans p1, p4⟩
theorem LinesAt.perm {K : PySem.W.Frag} {H : Hp} {xs ys : List V} {ls : List Ln} (h : Reps K H xs (ls.map lineD)) (p : ys.Perm xs) : ∃ ms : List Ln, ms.Perm ls ∧ Reps K H ys (ms.map lineD) := by
  obtain ⟨es, p1, p2⟩ := Reps.perm p h
  obtain ⟨ms, p3, p4⟩ := perm_map_inv p1
  exact ⟨ms, p3, by rw [p4]; exact p2⟩
end L2

set_option Elab.async false
set_option linter.all false
set_option maxRecDepth 100000
set_option maxHeartbeats 4000000
namespace L2
open PySem PySem.Spec PyProof.Rows
theorem sz {n : Nat} (h : n ≤ 1000) : n ≤ sizeLine := Nat.le_of_lt (small1000 h)
theorem szl {n : Nat} (h : n ≤ 1000) : n < sizeLine := small1000 h
/-- a net that grows over what was there at H -/
def NS (H : Hp) (p : Addr) (ks : List Str) (B : Int) (H2 : Hp) : Prop := ∃ bs f, Same H H2 ∧ NetAt H2 p bs f ∧ bs.map (·.1) = ks ∧ New H p bs ∧ GNet ks f B
end L2

set_option Elab.async false
set_option linter.all false
set_option maxRecDepth 100000
set_option maxHeartbeats 4000000
namespace L2
open PySem PySem.Spec PyProof.Rows
def mixF (c k : Int) : Int :=
  let n := (c % 2147483647 + 7919 * k + 1) * 48271 % 2147483647
  let m := (n * n + k) % 2147483629
  m * m % 2147483587
def isStr : D → Bool | .str _ => true | _ => false
theorem isiB_str (d : D) : isiB d.ty "str" = isStr d := by cases d <;> rfl
def nameD : D → Bool
  | .str x => decide (1 ≤ x.length) && decide (x.length ≤ 8) && (cs x).all fun c => decide (c ∈ cs lettersS)
  | _ => false
theorem glue_cs (sep : Str) : ∀ (rest : List Str) (acc : Array Nat), (rest.foldl (fun acc p => acc ++ sep.cps ++ p.cps) acc).toList = acc.toList ++ (rest.map fun y => cs sep ++ cs y).flatten
  | [], acc => by simp
  | y :: r, acc => by rw [List.foldl_cons, glue_cs sep r, List.map_cons, List.flatten_cons]; simp [cs]
theorem join_cs (sep x : Str) (rest : List Str) : cs (joinS sep (x :: rest)) = cs x ++ (rest.map fun y => cs sep ++ cs y).flatten := by
  show Array.toList (List.foldl (fun acc (p : Str) => acc ++ sep.cps ++ p.cps) x.cps rest) = _
  exact glue_cs sep rest x.cps
theorem cs_empty : cs "" = [] := by decide +kernel
theorem join_signs : ∀ l : List Nat, cs (joinS "" (l.map fun c => ⟨#[c]⟩)) = l
  | [] => rfl
  | c :: r => by
    rw [List.map_cons, join_cs, List.map_map]
    have : ∀ m : List Nat, (m.map ((fun y => cs "" ++ cs y) ∘ fun c => (⟨#[c]⟩ : Str))).flatten = m := fun m => by
      induction m with
      | nil => rfl
      | cons d m ih => rw [List.map_cons, List.flatten_cons, ih]; simp [cs_empty]; rfl
    rw [this]; rfl
theorem cutS_len (x : Str) (lo hi : Option Int) : (cutS x lo hi).length ≤ x.length := by
  rw [← cs_len, ← cs_len]; unfold cutS; rw [cs_ofC]; exact cutC_len _ _ _
theorem str_len (x y : Str) : (x ++ y).length = x.length + y.length := by rw [← cs_len, cs_append, List.length_append, cs_len, cs_len]
theorem pick2b {P : Int → Prop} {x y c : Int} (hx : P x) (hy : P y) : ∃ v, P v ∧ atI [V.int x, V.int y] (c % 2) = some (V.int v) := by
  have : c % 2 = 0 ∨ c % 2 = 1 := by omega
  rcases this with h | h <;> rw [h]
  · exact ⟨x, hx, rfl⟩
  · exact ⟨y, hy, rfl⟩
theorem Reps.tups {K : PySem.W.Frag} {H H' : Hp} (h : ∀ a zs, SqT K H a zs → SqT K H' a zs) : ∀ {ls : List Ln} {xs : List V}, Reps K H xs (ls.map lineD) → Reps K H' xs (ls.map lineD)
  | [], _, r => by cases r; exact .nil
  | l :: ls, _, r => by
    rw [List.map_cons] at r ⊢
    cases r with
    | cons a t =>
      refine .cons ?_ (Reps.tups h t)
      unfold lineD at a ⊢
      cases a with
      | tup h1 h2 =>
        cases h2 with
        | cons p1 t1 => cases t1 with
          | cons p2 t2 => cases t2 with
            | cons p3 t3 => cases t3; cases p1; cases p2; cases p3; exact .tup (h _ _ h1) (.cons (.str _) (.cons (.str _) (.cons (.int _) .nil)))
/-- a line is put behind the others -/
theorem LinesAt.snoc {K : PySem.W.Frag} {H : Hp} {p t : Addr} {xs : List V} {ls : List Ln} (h1 : H p = some (.lst xs)) (h2 : Reps K H xs (ls.map lineD)) (ht : H t = none) (l : Ln) :
    LinesAt K (upd (upd H t (.tup [.str l.1, .str l.2.1, .int l.2.2])) p (.lst (xs ++ [.ref t]))) p (ls ++ [l]) := by
  have tp : t ≠ p := fun e => by rw [e, h1] at ht; cases ht
  refine ⟨_, upd_same, ?_⟩
  rw [List.map_append]
  refine Reps.append (Reps.tups (fun a zs q => ?_) h2) (.cons (.tup (.inl (.inl ?_)) (.cons (.str _) (.cons (.str _) (.cons (.int _) .nil)))) .nil)
  · rcases q with q | q
    · have ap : a ≠ p := fun e => by
        subst e
        rcases q with q | ⟨o, q⟩ <;> rw [h1] at q <;> cases q
      have at' : a ≠ t := fun e => by
        subst e
        rcases q with q | ⟨o, q⟩ <;> rw [ht] at q <;> cases q
      rcases q with q | ⟨o, q⟩
      · exact .inl (.inl (by rw [upd_ne ap, upd_ne at']; exact q))
      · exact .inl (.inr ⟨o, by rw [upd_ne ap, upd_ne at']; exact q⟩)
    · exact .inr q
  · rw [upd_ne tp, upd_same]
def hasD (kvs : List (Key × V)) : D → Bool | .str x => (valV kvs (Sum.inr x)).isSome | _ => false
theorem sz' {n : Nat} (h : n ≤ 10000) : n ≤ sizeLine := Nat.le_trans h (by decide)
def seenK (ss : List Str) : List (Key × V) := ss.map fun s => (Sum.inr s, .bl true)
theorem cst_mk {K : PySem.W.Frag} {ns : Addr} {n : Str} {v : Value} {P : Value → Prop} (e : PySem.W.nsIn K ns n = some (some v)) (h : P v) : ∃ v : Value, PySem.W.nsIn K ns n = some (some v) ∧ P v := ⟨v, e, h⟩
def strengthD : D → Bool | .int i => decide (1 ≤ i) && decide (i ≤ 1000000000) | _ => false
def NS0 (H : Hp) (p : Addr) (ks : List Str) (g : Str → L2.Row) (H2 : Hp) : Prop := ∃ bs, Same H H2 ∧ NetAt H2 p bs g ∧ bs.map (·.1) = ks ∧ New H p bs
end L2

set_option Elab.async false
set_option linter.all false
set_option maxRecDepth 100000
/-! more of TEXTS: split, partition, f-strings, int(text); try; reversed (own work) -/
namespace L2
open PySem PySem.Spec PyProof.Rows
section
variable {X : Cx}
/-- int(text) -/
theorem call_int_str : CallR X (.type "int") (fun xs H Q => ∃ x n, xs = [.str x] ∧ PySem.intText? x = some n ∧ x.length ≤ 640 ∧ Q (.int n) H) := by
  rintro pins s σ H xs us Q I r ⟨x, n, rfl, hn, hl, q⟩
  obtain ⟨u, rfl, t, rfl⟩ := vals1 r
  exact PySem.W.KIN.call_text hn hl ⟨.int n, H, I.tok _, ⟨_, rfl⟩, q⟩
/-- f-strings -/
abbrev TF := St → Hp → Str → VK → Prop
def PF (X : Cx) (es : List Expr) (t : TF) : Prop :=
  ∀ (pins : List (Addr × Obj)) (s : Shared) (σ : St) (H : Hp) (out : Str) (Q : VK), Inv X pins σ H s → t σ H out Q → wpAny (model X.prog X.w) X.A (joinParts out (evalEach es X.env)) (EP X pins σ Q) X.xe s
def fNil : TF := fun _ H out Q => out.length ≤ sizeLine ∧ Q (.str out) H
def fTxt (x : Str) (r : TF) : TF := fun σ H out Q => (out ++ x).length ≤ sizeLine ∧ r σ H (out ++ x) Q
def fmtV (v : V) (z : Str) : Prop := (∃ y, v = .str y ∧ z = y ∧ y.length ≤ sizeLine) ∨ ∃ i : Int, v = .int i ∧ z = toString i ∧ i.natAbs.log2 < 1920
def fVal (te : TE) (r : TF) : TF := fun σ H out Q => te σ H fun v H1 => ∃ z, fmtV v z ∧ (out ++ z).length ≤ sizeLine ∧ r σ H1 (out ++ z) Q
end
/-- a list, from its end -/
def Itrv (K : PySem.W.Frag) (a : Addr) (xs : List V) : It :=
  ⟨fun i H => SqL K H a xs ∧ i < xs.length, fun i H x H' => H' = H ∧ xs[xs.length - 1 - i]? = some x, fun i H => SqL K H a xs ∧ i = xs.length⟩
def iRev (K : PySem.W.Frag) (ta : TA) : TI := fun σ H R => ta σ H fun vs H1 => ∃ a xs, vs = [.ref a] ∧ SqL K H1 a xs ∧ R (Itrv K a xs) H1
section
variable {X : Cx} {tg : Expr}
end
end L2

set_option Elab.async false
set_option linter.all false
set_option maxRecDepth 100000
set_option maxHeartbeats 4000000
/-! nets as texts: shown and read (own work) -/
namespace L2
open PySem PySem.Spec PyProof.Rows
/-! ### split is undone join -/
def splitL (c : Nat) : List Nat → List (List Nat)
  | [] => [[]]
  | d :: r => if d = c then [] :: splitL c r else match splitL c r with | [] => [[d]] | p :: ps => (d :: p) :: ps
def joinL (c : Nat) : List (List Nat) → List Nat
  | [] => []
  | [p] => p
  | p :: q :: r => p ++ c :: joinL c (q :: r)
/-! ### numbers -/
abbrev numS (v : Int) : Str := toString v
/-! ### a net's text -/
abbrev c1 (c : Nat) : Str := ⟨#[c]⟩
def endS (f : Str → Row) (x y : Str) : Str := " " ++ y ++ " " ++ numS ((look (f x) y).getD 0)
def ysOf (f : Str → Row) (x : Str) : List Str := (sortS ((f x).map (·.1))).filter fun y => decide (sLt x y)
def tailS (f : Str → Row) (x : Str) : Str := joinS "," ((ysOf f x).map (endS f x))
def rowS (f : Str → Row) (x : Str) : Str := x ++ ":" ++ tailS f x
def netS (ks : List Str) (f : Str → Row) : Str := joinS "\n" ((sortS ks).map (rowS f))
section
variable {ks : List Str} {f : Str → Row} {B : Int}
end
theorem cs_c1 (c : Nat) : cs (c1 c) = [c] := rfl
end L2

set_option Elab.async false
set_option linter.all false
set_option maxRecDepth 100000
set_option maxHeartbeats 4000000
namespace L2
open PySem PySem.Spec PyProof.Rows
def figS : Str := "0123456789"
theorem fig_cs : cs figS = (List.range 10).map (48 + ·) := by decide +kernel
theorem fig_mem {c : Nat} : c ∈ cs figS ↔ 48 ≤ c ∧ c ≤ 57 := by
  rw [fig_cs, List.mem_map]
  constructor
  · rintro ⟨k, hk, rfl⟩
    have := List.mem_range.mp hk
    omega
  · intro h
    exact ⟨c - 48, List.mem_range.mpr (by omega), by omega⟩
theorem e48 : ("0" : Str) = c1 48 := by decide +kernel
def wrD : D → Bool
  | .str x => decide (1 ≤ x.length) && decide (x.length ≤ 10) && ((cs x).all fun c => decide (c ∈ cs figS)) && (decide (x = "0") || !decide ((cs x).head? = some 48))
  | _ => false
/-- a net that can be shown and read -/
structure GT (ks : List Str) (f : Str → Row) : Prop where
  g : GNet ks f 1000000000
  nm : ∀ x ∈ ks, isNm x
  len : ks.length ≤ 12
  nd : ks.Nodup
section
variable {ks : List Str} {f : Str → Row}
theorem GT.end (h : GT ks f) {x y : Str} (hx : x ∈ ks) (hy : y ∈ (f x).map (·.1)) : y ∈ ks ∧ isNm y ∧ ∃ v, look (f x) y = some v ∧ (look (f x) y).getD 0 = v ∧ 1 ≤ v ∧ v ≤ 1000000000 := by
  obtain ⟨v, hv⟩ := look_some_iff.mpr hy
  obtain ⟨a, b, c⟩ := h.g.val x y v hx hv
  exact ⟨a, h.nm y a, v, hv, by rw [hv]; rfl, b, c⟩
theorem GT.row (h : GT ks f) {x : Str} (hx : x ∈ ks) : (f x).length ≤ 12 := by
  have : ((f x).map (·.1)).length ≤ ks.length := nd_len (h.g.nd x hx) fun y hy => (h.end hx hy).1
  rw [List.length_map] at this
  have := h.len
  omega
/-! ### read back -/
end
end L2

set_option Elab.async false
set_option linter.all false
set_option maxRecDepth 100000
set_option maxHeartbeats 4000000
namespace L2
open PySem PySem.Spec PyProof.Rows
end L2

set_option Elab.async false
set_option linter.all false
set_option maxRecDepth 100000
set_option maxHeartbeats 4000000
/-! EXCEPTIONS: a record that flies out of a frame (own work) -/
namespace L2
open PySem PySem.Spec PyProof.Rows
/-- what a passing exception leaves behind: x has got the entry T; the frames' slots and the entry ahead may be others -/
structure Lft (fs : List Addr) (x : Addr) (oe : Obj) (vs : Array Value) (h h' : Heap) (T : Addr) : Prop where
  keep : ∀ b o, b ∉ fs → b ≠ x → vs[1]? ≠ some (.ref b) → h.get? b = some o → h'.get? b = some o
  slot : ∀ b o, b ∈ fs → h.get? b = some o → ∃ sl, h'.get? b = some { o with slots := sl }
  there : ∀ b o, h.get? b = some o → ∃ o', h'.get? b = some o'
  rc : ∃ (vs' : Array Value) (oT : Obj) (ts : Array Value), h'.get? x = some { oe with data := .fields vs' } ∧ vs'[1]? = some (.ref T) ∧ h'.get? T = some oT ∧ oT.data = .fields ts ∧ ts[3]? = some .none
  new : h.objs.size ≤ T
theorem mapF {o : Obj} {vs : Array Value} (hd : o.data = .fields vs) (f : Array Value → Array Value) : Obj.mapFields f o = { o with data := .fields (f vs) } := by
  obtain ⟨c, d, dt, sl⟩ := o
  cases hd
  rfl
section
variable {M : Model} {A : Around} {E : Value → Shared → Prop} {s : Shared}
/-- the new entry is laid, and the flight ends -/
theorem entry_x {base : Heap} {env : Env} {outer : List Env} {L x : Addr} {oe : Obj} {vs : Array Value} {head : Value} {nx : Bool} {Q : Unit → Shared → Prop} (hfr : A.frames = some (env :: outer)) (hl : s.heap.FunFrames base (env :: outer)) (hf : env.frame = some L)
    (he : s.heap.get? x = some oe) (hd : oe.data = .fields vs) (hsz : 1 < vs.size)
    (h : ∀ h' T, (∀ b o, b ∉ frs (env :: outer) → b ≠ x → s.heap.get? b = some o → h'.get? b = some o) → (∀ b o, b ∈ frs (env :: outer) → s.heap.get? b = some o → ∃ sl, h'.get? b = some { o with slots := sl }) →
      (∃ (vs' : Array Value) (oT : Obj) (ts : Array Value), h'.get? x = some { oe with data := .fields vs' } ∧ vs'[1]? = some (.ref T) ∧ h'.get? T = some oT ∧ oT.data = .fields ts ∧ ts[3]? = some .none) → s.heap.objs.size ≤ T → Q () { s with heap := h' }) :
    wpAny M A (do let a ← frameOf env; let pl ← entryPlaceOf L nx; let b ← EntryCells.newEntry head a .none (rawInt L) .none pl; setField (.ref x) 1 b) (fun _ s' => wpAny M A (setFlight (.ref x) none) Q E s') E s := by
  have hxf : x ∉ frs (env :: outer) := fun hm => by
    obtain ⟨_, o, ho, hnf⟩ := hl.mem hm
    rw [he] at ho; cases ho; exact hnf vs hd
  refine wpAny_bind (wpAny_frameOf_fun hfr hl hf fun g1 s1 => wpAny_bind (wpAny_entryPlaceOf fun pl hpl => ?_))
  unfold EntryCells.newEntry newFields
  refine wpAny_bind (wpAny_newObj_type ?_ (hpl.sizeOk5 _ _ _ _ _))
  generalize hts : ([head, .ref L, .none, rawInt L, .none] ++ (if pl.isEmpty then List.replicate 6 Value.none else pl)).toArray = ts
  have hts3 : 3 < ts.size := by rw [← hts]; simp only [List.size_toArray, List.length_append, List.length_cons, List.length_nil]; omega
  have sz1 : g1.objs.size = s.heap.objs.size := s1.1
  have hx1 : g1.get? x = some oe := (s1.2.1 x hxf).trans he
  have hx2 : (g1.push { cls := .type "traceback", data := .fields ts }).get? x = some oe := Heap.get?_push_of_some _ hx1
  have hTx : g1.objs.size ≠ x := Nat.ne_of_gt (Heap.lt_size hx1)
  refine wpAny_setField hx2 hd hsz ?_
  have hd3 := Obj.data_mapFields hd (·.setIfInBounds 1 (Value.ref g1.objs.size))
  have hx3 := Heap.get?_update_self (Obj.mapFields (·.setIfInBounds 1 (Value.ref g1.objs.size))) hx2 (Obj.isFreed_of_fields hd3)
  have hT3 : ((g1.push { cls := .type "traceback", data := .fields ts }).update x (Obj.mapFields (·.setIfInBounds 1 (Value.ref g1.objs.size)))).get? g1.objs.size = some { cls := .type "traceback", data := .fields ts } :=
    (Heap.get?_update_other _ _ (Ne.symm hTx)).trans (Heap.get?_push_size g1 rfl)
  unfold setFlight
  refine wpAny_bind (wpAny_field hx3 hd3 (x := .ref g1.objs.size) (by simp [hsz]) ?_)
  rw [if_pos (by simp : (Value.ref g1.objs.size != Value.none) = true)]
  refine wpAny_setField hT3 rfl hts3 (h _ g1.objs.size (fun b o hb hbx e => ?_) (fun b o hb e => ?_) ?_ (Nat.le_of_eq sz1.symm))
  · have e1 : g1.get? b = some o := (s1.2.1 b hb).trans e
    rw [Heap.get?_update_other _ _ (Nat.ne_of_gt (Heap.lt_size e1)), Heap.get?_update_other _ _ (Ne.symm hbx)]
    exact Heap.get?_push_of_some _ e1
  · obtain ⟨sl, e1⟩ := s1.2.2 b o e
    refine ⟨sl, ?_⟩
    rw [Heap.get?_update_other _ _ (Nat.ne_of_gt (Heap.lt_size e1)), Heap.get?_update_other _ _ (fun (q : x = b) => hxf (by rw [q]; exact hb))]
    exact Heap.get?_push_of_some _ e1
  · refine ⟨vs.setIfInBounds 1 (.ref g1.objs.size), _, _, ?_, by simp [hsz], Heap.get?_update_self _ hT3 (Obj.isFreed_of_fields (Obj.data_mapFields rfl _)), Obj.data_mapFields rfl _, ?_⟩
    · rw [Heap.get?_update_other _ _ hTx, hx3, mapF hd]
    · simp [hts3]
/-- an exception leaves a frame -/
theorem leave_x {base : Heap} {env : Env} {outer : List Env} {L x : Addr} {oe : Obj} {vs : Array Value} {Q : Unit → Shared → Prop} (hfr : A.frames = some (env :: outer)) (hl : s.heap.FunFrames base (env :: outer)) (hf : env.frame = some L)
    (he : s.heap.get? x = some oe) (hd : oe.data = .fields vs) (h1 : vs[1]? = some .none ∨ ∃ T0 oT ts, vs[1]? = some (.ref T0) ∧ T0 ≠ x ∧ s.heap.get? T0 = some oT ∧ oT.data = .fields ts ∧ ts[3]? = some Value.none)
    (h : ∀ h' T, Lft (frs (env :: outer)) x oe vs s.heap h' T → Q () { s with heap := h' }) : wpAny M A (leaving env (.ref x)) Q E s := by
  unfold leaving noteFrame
  simp only [hf]
  rcases h1 with h1 | ⟨T0, oT, ts, h1, hTx, hT, hdT, h3⟩
  · refine wpAny_bind (wpAny_bind (wpAny_field he hd h1 ?_))
    rw [if_neg (by decide)]
    refine entry_x hfr hl hf he hd (Array.getElem?_eq_some_iff.mp h1).1 fun h' T k1 k2 k3 k4 => h h' T ⟨fun b o hb hbx _ e => k1 b o hb hbx e, k2, fun b o e => ?_, k3, k4⟩
    by_cases c : b ∈ frs (env :: outer)
    · obtain ⟨sl, q⟩ := k2 b o c e; exact ⟨_, q⟩
    · by_cases c2 : b = x
      · obtain ⟨_, _, _, q, _⟩ := k3; exact ⟨_, c2 ▸ q⟩
      · exact ⟨o, k1 b o c c2 e⟩
  · refine wpAny_bind (wpAny_bind (wpAny_field he hd h1 ?_))
    rw [if_pos (by simp : (Value.ref T0 != Value.none) = true)]
    refine wpAny_bind (wpAny_field hT hdT h3 ?_)
    rw [if_neg (by simp [rawInt] : ¬ ((Value.none == rawInt L) = true))]
    refine wpAny_bind (wpAny_setField hT hdT (Array.getElem?_eq_some_iff.mp h3).1 ?_)
    have oth : ∀ b, b ≠ T0 → (s.heap.update T0 (Obj.mapFields (·.setIfInBounds 3 Value.none))).get? b = s.heap.get? b := fun b hb => Heap.get?_update_other _ _ (Ne.symm hb)
    have hTf : T0 ∉ frs (env :: outer) := fun hm => by
      obtain ⟨_, o, ho, hnf⟩ := hl.mem hm
      rw [hT] at ho; cases ho; exact hnf ts hdT
    have hTn := Heap.get?_update_self (Obj.mapFields (·.setIfInBounds 3 Value.none)) hT (Obj.isFreed_of_fields (Obj.data_mapFields hdT _))
    have hl' : (s.heap.update T0 (Obj.mapFields (·.setIfInBounds 3 Value.none))).FunFrames base (env :: outer) := hl.of_keeps fun b o hb hnf => ⟨o, (oth b fun q => by subst q; rw [hT] at hb; cases hb; exact hnf ts hdT).trans hb, rfl⟩
    have hsz : (s.heap.update T0 (Obj.mapFields (·.setIfInBounds 3 Value.none))).objs.size = s.heap.objs.size := Heap.size_after_update ..
    refine entry_x hfr hl' hf ((oth x (Ne.symm hTx)).trans he) hd (Array.getElem?_eq_some_iff.mp h1).1 fun h' T k1 k2 k3 k4 => h h' T ⟨fun b o hb hbx hbT e => k1 b o hb hbx ((oth b fun q => hbT (by rw [q]; exact h1)).trans e), fun b o hb e => k2 b o hb ((oth b fun q => hTf (q ▸ hb)).trans e), fun b o e => ?_, k3, by rw [← hsz]; exact k4⟩
    by_cases c : b ∈ frs (env :: outer)
    · obtain ⟨sl, q⟩ := k2 b o c ((oth b fun q => hTf (q ▸ c)).trans e); exact ⟨_, q⟩
    · by_cases c2 : b = x
      · obtain ⟨_, _, _, q, _⟩ := k3; exact ⟨_, c2 ▸ q⟩
      · by_cases c3 : b = T0
        · subst c3; exact ⟨_, k1 b _ c c2 hTn⟩
        · exact ⟨o, k1 b o c c2 ((oth b c3).trans e)⟩
end
end L2

set_option Elab.async false
set_option linter.all false
set_option maxRecDepth 100000
set_option maxHeartbeats 4000000
namespace L2
open PySem PySem.Spec PyProof.Rows
abbrev bmV : List Value := [.type "ValueError", .type "Exception", .type "BaseException", .type "object"]
/-- a class two steps under ValueError: C under D, which has no __init__ of its own; C's own is fI -/
structure XCls (K : PySem.W.Frag) (C D : Addr) (fI : Addr) : Prop where
  obj : ∃ nm q N bs sn sub ab col dd k0 k1 k2 k3 k5, K.lookup C = some (excClassObj nm q C N bs (.ref D :: bmV) true sn sub ab col dd k0 k1 k2 k3 k5 "ValueError.__new__")
  tl : ∀ h : Heap, K.In h → OwnTail h bmV (.ref D :: bmV)
  ini : PySem.W.findIn K (.ref C) "__init__" = some (some (.ref fI))
  sa : PySem.W.findIn K (.ref C) "__setattr__" = some (some (.builtin "object.__setattr__"))
  fn : PySem.W.isFn K (.ref fI) = true
  kp : PySem.W.keepIn K (.ref C) = true
section
variable {prog : Program} {w : World} {A : Around} {E : Value → Shared → Prop} {h : Heap} {g : Array GenState} {d : Drawn} {t : Nat} {os : OsState}
variable {nm q : Str} {C N D fI : Addr} {bs : List Value} {sn : List Str} {sub : List Value} {ab : Bool} {col : Option Bool} {dd : Option Addr} {k0 k1 k2 k3 k5 : Option Value}
theorem type_call_I {K : PySem.W.Frag} {rest : List Value} {oI : Obj} {Q : Fin → Shared → Prop} (T : OwnTail h bmV (.ref D :: bmV)) (hC : h.get? C = some (excClassObj nm q C N bs (.ref D :: bmV) true sn sub ab col dd k0 k1 k2 k3 k5 "ValueError.__new__"))
    (KX : K.In h) (hi : PySem.W.findIn K (.ref C) "__init__" = some (some (.ref fI))) (hfI : h.get? fI = some oI) (hfc : oI.cls = .type "function") (hrest : rest.length ≤ sizeLine)
    (hq : ∀ h' e, h.objs.size ≤ e → Heap.MadeExcOf h h' e (.ref C) rest → wpAny (model prog w) A (call (.ref fI) (.ref e :: rest)) (fun r s' => r = .none ∧ Q (.done (.ret (.ref e))) s') E ⟨h', g, d, t, os⟩) :
    wpAny (model prog w) A (Builtin.«type.__call__» ⟨.ref C :: rest, []⟩) Q E ⟨h, g, d, t, os⟩ := by
  have Fv := PySem.F.excBase_ValueError
  have hv : bmV.contains (.type "ValueError") = true := by decide +kernel
  repeat (first | with_reducible refine wpAny_loadPart_at hC ?_ | with_reducible refine wpAny_madeBy_exc hC ?_ | wp_step)
  refine codeAny_call_builtin_code (Code.quiet_builtin _ Fv.quiet) (wpAny_check_new_subU Fv hv T hC (codeAny_exc_new_subU Fv hv Fv T hC ?_ hrest))
  show wpAny _ _ _ _ _ _
  generalize hgg : (h.push { cls := .type "tuple", data := .seq rest.toArray }).push { cls := .ref C, data := .fields #[.ref h.objs.size, .none, .none, .none, .bool false, .none] } = h2
  have old : ∀ b o, h.get? b = some o → h2.get? b = some o := fun b o e => by rw [← hgg]; exact Heap.get?_push_of_some _ (Heap.get?_push_of_some _ e)
  have hget : h2.get? (h.objs.size + 1) = some { cls := .ref C, data := .fields #[.ref h.objs.size, .none, .none, .none, .bool false, .none] } := by rw [← hgg]; heap_get
  have htup : h2.get? h.objs.size = some { cls := .type "tuple", data := .seq rest.toArray } := by rw [← hgg]; exact Heap.get?_push_of_some _ (Heap.get?_push_at rfl rfl)
  have hC2 := old _ _ hC
  have KX2 := KX.keeps old
  have hcC : (Value.ref C :: Value.ref D :: bmV).contains (.ref C) = true := by simp
  unfold isInstance
  repeat (first | with_reducible refine wpAny_loadPart_at hget ?_ | (with_reducible refine wpAny_isSubtype_exc hC2 ?_; rw [hcC]) | wp_step)
  show wpAny _ _ (typeLookup (.ref C) _) _ _ _
  refine PySem.W.looks_findIn KX2 hi _ _ _ _ (fun _ _ z => z) ?_
  refine wpAny_holding (wpAny_bind ?_)
  unfold bindSpecial
  refine wpAny_bind (wpAny_typeOf (T := "function") ⟨_, old _ _ hfI, hfc⟩ ?_)
  rw [if_pos (by decide)]
  refine wpAny_pure (wpAny_bind (wpAny_mono (hq h2 (h.objs.size + 1) (Nat.le_succ _) ⟨old, Heap.get?_none_of_le (Nat.le_succ _), h.objs.size, hget, Heap.get?_none_of_le (Nat.le_refl _), htup⟩) (fun r s' hr => ?_) fun _ _ x => x))
  obtain ⟨rfl, hQ⟩ := hr
  wp_walk
  exact hQ
theorem call_I {K : PySem.W.Frag} {rest : List Value} {oI : Obj} {Q : Value → Shared → Prop} (T : OwnTail h bmV (.ref D :: bmV)) (hC : h.get? C = some (excClassObj nm q C N bs (.ref D :: bmV) true sn sub ab col dd k0 k1 k2 k3 k5 "ValueError.__new__"))
    (KX : K.In h) (hi : PySem.W.findIn K (.ref C) "__init__" = some (some (.ref fI))) (hfI : h.get? fI = some oI) (hfc : oI.cls = .type "function") (hrest : rest.length ≤ sizeLine)
    (hq : ∀ h' e, h.objs.size ≤ e → Heap.MadeExcOf h h' e (.ref C) rest → wpAny (model prog w) (A.under (.builtin "type.__call__" ⟨.ref C :: rest, []⟩)) (call (.ref fI) (.ref e :: rest)) (fun r s' => r = .none ∧ Q (.ref e) s') E ⟨h', g, d, t, os⟩) :
    wpAny (model prog w) A (call (.ref C) rest) Q E ⟨h, g, d, t, os⟩ := by
  have f1 := tc_lookup
  have f2 := tc_bind (.ref C)
  have hT : (⟨h, g, d, t, os⟩ : Shared).TypeIs (.ref C) "type" := ⟨_, hC, rfl⟩
  refine wpAny_call (codeAny_of_tree ?_)
  show wpAny _ _ (callAny (.ref C) _) _ _ _
  repeat (any_goals (first | assumption | with_reducible refine wpAny_loadPart_at hC ?_ | wp_step))
  exact ⟨rfl, codeAny_call_builtin_at (Code.quiet_builtin _ (by decide +kernel)) entry_typeCall (wpAny_check_type_call_sub hC (type_call_I T hC KX hi hfI hfc hrest fun h' e he hm => hq h' e he hm))⟩
/-- self.f = v of an exception -/
theorem check_X {M : Model} {x : Addr} {o : Obj} {nameV v : Value} {Q : Unit → Shared → Prop} (hC : h.get? C = some (excClassObj nm q C N bs (.ref D :: bmV) true sn sub ab col dd k0 k1 k2 k3 k5 "ValueError.__new__")) (hx : h.get? x = some o) (hc : o.cls = .ref C) (hq : Q () ⟨h, g, d, t, os⟩) :
    wpAny M A (checkBuiltinCall "object.__setattr__" ⟨[.ref x, nameV, v], []⟩) Q E ⟨h, g, d, t, os⟩ := by
  have SF := PySem.F.store_ValueError
  have hcB : (Value.ref C :: Value.ref D :: bmV).contains (.type "object") = true := by rw [List.contains_cons, List.contains_cons, show bmV.contains (.type "object") = true by decide +kernel, Bool.or_true, Bool.or_true]
  have ha := SF.args (.ref x) nameV v
  simp only [checkBuiltinCall, SF.kind, SF.split]
  refine wpAny_bind ?_
  unfold isInstance
  repeat (first | (with_reducible refine wpAny_loadPart_at hx ?_; rw [hc]) | (with_reducible refine wpAny_isSubtype_exc hC ?_; rw [hcB]) | wp_step)
  exact hq
/-- what a store leaves -/
def StoX (h h' : Heap) (x C : Addr) (mA : Str → Option Value) (name : Str) (v : Value) : Prop := h'.Inst x C (fun y => if y = name then some v else mA y) ∧ (∀ b o, b ≠ x → (∀ o₀ dx, h.get? x = some o₀ → o₀.dict = some dx → b ≠ dx) → h.get? b = some o → h'.get? b = some o) ∧
  ∀ o₀, h.get? x = some o₀ → ∃ dx, h'.get? x = some { o₀ with dict := some dx } ∧ ((o₀.dict = some dx) ∨ (o₀.dict = none ∧ dx = h.objs.size))
theorem entry_X {x : Addr} {mA : Str → Option Value} {name : Str} {v : Value} {tk : Tok} {Q : Fin → Shared → Prop} {ns : List Str} {K : PySem.W.Frag} (KX : K.In h) (hC : h.get? C = some (excClassObj nm q C N bs (.ref D :: bmV) true sn sub ab col dd k0 k1 k2 k3 k5 "ValueError.__new__"))
    (hna : PySem.W.findIn K (.ref C) name = some none) (I : h.Inst x C mA) (hw : Within mA ns) (hsz : ns.length ≤ 1000) (hq : ∀ h' tk', StoX h h' x C mA name v → Q (.done (.ret .none)) ⟨h', g, d, tk', os⟩) :
    wpAny (model prog w) A (Builtin.«object.__setattr__» ⟨[.ref x, .str name tk, v], []⟩) Q E ⟨h, g, d, t, os⟩ := by
  obtain ⟨o, hx, hc, hnc, hdd⟩ := I
  have hpass := PySem.F.store_ValueError.passes (.ref x)
  have lk : ∀ {n : Str} {r : Option Value} {P : Option Value → Shared → Prop} {A' : Around} {E' : Value → Shared → Prop} {tk : Nat}, PySem.W.findIn K (.ref C) n = some r → P r ⟨h, g, d, tk, os⟩ → wpAny (model prog w) A' (typeLookup (.ref C) n) P E' ⟨h, g, d, tk, os⟩ := fun e hp => PySem.W.looks_findIn KX e _ _ _ _ (fun _ _ z => z) hp
  unfold Builtin.«object.__setattr__»
  repeat (first | rw [refuse_eq] | (rw [refuseLoop_ref, refuseLoop_ref, hpass]) | (with_reducible refine wpAny_loadPart_at hx ?_; rw [hc]) | with_reducible refine wpAny_mroOf_exc hC ?_ | (with_reducible refine lk hna ?_) | wp_step)
  rcases hdd with ⟨hdn, hmA⟩ | ⟨dx, hdx, hne, hns⟩
  · rw [hdn, if_neg (by simp [typeHasDict])]
    split
    · rename_i hcd
      cases hcd
    split
    · rename_i c hcd
      exact absurd hcd (hnc c)
    · have hx1 : (h.push { cls := .type "dict", data := .dict #[] }).get? x = some o := Heap.get?_push_of_some _ hx
      have hxs : x ≠ h.objs.size := Nat.ne_of_lt (Heap.lt_size hx)
      refine wpAny_bind (wpAny_alloc' (wpAny_bind (wpAny_update' hx1 (wpAny_pure ?_))))
      generalize hgg : ((h.push { cls := .type "dict", data := .dict #[] }).update x fun o => { cls := o.cls, dict := some h.objs.size, data := o.data, slots := o.slots }) = h2
      have hgd : h2.get? h.objs.size = some { cls := .type "dict", data := .dict #[] } := by rw [← hgg]; exact (Heap.get?_update_ne _ _ _ _ hxs.symm).trans (Heap.get?_push_at rfl rfl)
      have hnd : h2.Ns h.objs.size (fun _ => none) := ⟨_, #[], _, hgd, rfl, fun e he => absurd he (by simp), fun _ => rfl⟩
      have hx2 : h2.get? x = some { cls := o.cls, dict := some h.objs.size, data := o.data, slots := o.slots } := by
        rw [← hgg]
        refine Heap.get?_update_self _ hx1 ?_
        have hfr := (Heap.get?_some_iff.mp hx).2
        obtain ⟨oc, od, odt, osl⟩ := o
        cases odt <;> first | rfl | exact hfr
      have old2 : ∀ b ob, b ≠ x → h.get? b = some ob → h2.get? b = some ob := fun b ob hbx hb => by rw [← hgg]; exact (Heap.get?_update_ne _ _ _ _ hbx).trans (Heap.get?_push_of_some _ hb)
      show wpAny _ _ (Builtin.ObjectAttr.storeInDict h.objs.size (.str name tk) name v) _ _ _
      unfold Builtin.ObjectAttr.storeInDict Builtin.ObjectAttr.newKeyGuard
      refine wpAny_bind (wpAny_pure (wpAny_bind (wpAny_nsSet1 (Heap.Ns1.of_empty hnd) fun h' hn' hs => ?_)))
      obtain ⟨oD, esD, epD, hoD, hdD, hcD⟩ := hn'.count (Within.cons name v Within.nil)
      refine wpAny_bind (wpAny_lookBehind hoD (by rw [hdD]; exact pastItsLine_dict (Nat.le_trans hcD (by show 1 ≤ sizeLine + 1; exact Nat.succ_le_succ (Nat.zero_le _)))) ?_)
      wp_walk
      have hx' := (hs.2 x hxs).trans hx2
      refine hq h' _ ⟨⟨_, hx', hc, hnc, .inr ⟨h.objs.size, rfl, hxs.symm, ?_⟩⟩, fun b ob hbx _ hb => (hs.2 b (Nat.ne_of_lt (Heap.lt_size hb))).trans (old2 b ob hbx hb), fun o₀ e0 => ?_⟩
      · obtain ⟨o', es, ep, e1, e2, e3, eu, e4⟩ := hn'
        exact ⟨o', es, ep, e1, e2, e3, eu, fun y => by rw [e4 y]; by_cases hy : y = name <;> simp [hy, hmA]⟩
      · obtain rfl : o = o₀ := Option.some.inj (hx.symm.trans e0)
        exact ⟨h.objs.size, hx', .inr ⟨hdn, rfl⟩⟩
  · rw [hdx]
    refine wpAny_pure ?_
    show wpAny _ _ (Builtin.ObjectAttr.storeInDict dx (.str name tk) name v) _ _ _
    unfold Builtin.ObjectAttr.storeInDict Builtin.ObjectAttr.newKeyGuard
    refine wpAny_bind (wpAny_pure (wpAny_bind (wpAny_nsSet1 hns fun h' hn' hs => ?_)))
    obtain ⟨oD, esD, epD, hoD, hdD, hcD⟩ := hn'.count (Within.cons name v hw)
    refine wpAny_bind (wpAny_lookBehind hoD (by rw [hdD]; exact pastItsLine_dict (Nat.le_trans hcD (by rw [List.length_cons]; exact Nat.succ_le_succ (sz' (by omega))))) ?_)
    wp_walk
    have hx' := (hs.2 x hne.symm).trans hx
    refine hq h' _ ⟨⟨o, hx', hc, hnc, .inr ⟨dx, hdx, hne, hn'⟩⟩, fun b ob _ hbd hb => (hs.2 b (hbd o dx hx hdx)).trans hb, fun o₀ e0 => ?_⟩
    obtain rfl : o = o₀ := Option.some.inj (hx.symm.trans e0)
    refine ⟨dx, ?_, .inl hdx⟩
    rw [hx', ← hdx]
theorem store_X {x : Addr} {mA : Str → Option Value} {name : Str} {v : Value} {Q : Unit → Shared → Prop} {ns : List Str} {K : PySem.W.Frag} (KX : K.In h) (hC : h.get? C = some (excClassObj nm q C N bs (.ref D :: bmV) true sn sub ab col dd k0 k1 k2 k3 k5 "ValueError.__new__"))
    (hsa : PySem.W.findIn K (.ref C) "__setattr__" = some (some (.builtin "object.__setattr__"))) (hna : PySem.W.findIn K (.ref C) name = some none) (I : h.Inst x C mA) (hw : Within mA ns) (hsz : ns.length ≤ 1000) (hq : ∀ h' tk', StoX h h' x C mA name v → Q () ⟨h', g, d, tk', os⟩) :
    wpAny (model prog w) A (setAttr (.ref x) name v) Q E ⟨h, g, d, t, os⟩ := by
  obtain ⟨o, hx, hc, _⟩ := id I
  have SF := PySem.F.store_ValueError
  have f3 := SF.slot.bind (.ref x)
  have lk : ∀ {n : Str} {r : Option Value} {P : Option Value → Shared → Prop} {A' : Around} {E' : Value → Shared → Prop} {tk : Nat}, PySem.W.findIn K (.ref C) n = some r → P r ⟨h, g, d, tk, os⟩ → wpAny (model prog w) A' (typeLookup (.ref C) n) P E' ⟨h, g, d, tk, os⟩ := fun e hp => PySem.W.looks_findIn KX e _ _ _ _ (fun _ _ z => z) hp
  unfold setAttr callSpecial? specialOf
  repeat (any_goals (first | assumption | (with_reducible refine wpAny_loadPart_at hx ?_; rw [hc]) | (with_reducible refine lk hsa ?_) | wp_step))
  refine codeAny_call_builtin SF.slot.plain SF.entry (check_X hC hx hc (entry_X KX hC hna I hw hsz fun h' tk' hs => ?_))
  repeat (any_goals (first | assumption | wp_step))
  exact hq h' tk' hs
end
end L2

set_option Elab.async false
set_option linter.all false
set_option maxRecDepth 100000
set_option maxHeartbeats 4000000
namespace L2
open PySem PySem.Spec PyProof.Rows
/-- an exception's record; its dict -/
def ExcAt (x C : Addr) (od : Option Addr) : Heap → Prop := fun h => ∃ vs, h.get? x = some ({ cls := .ref C, dict := od, data := .fields vs } : Obj)
def XdAt (dx : Addr) (fs : List (Str × V)) : Heap → Prop := fun h => ∃ mA, h.Ns1 dx mA ∧ (∀ f, RelO (fs.lookup f) (mA f)) ∧ PySem.Within mA (fs.map (·.1))
theorem excOk {P : Program} {w : World} {H : Hp} {h : Heap} {x C : Addr} {od : Option Addr} (e : ExcAt x C od h) : ObjOk P w H h x (.ext (ExcAt x C od)) :=
  ⟨e, let ⟨_, q⟩ := e; ⟨_, q⟩, fun _ _ ⟨vs, q⟩ k => ⟨vs, k _ q⟩⟩
theorem ns1_at {h1 h2 : Heap} {d : Addr} {m : Str → Option Value} (n : h1.Ns1 d m) (k : ∀ o, h1.get? d = some o → h2.get? d = some o) : h2.Ns1 d m := by
  obtain ⟨o, es, ep, e, r⟩ := n
  exact ⟨o, es, ep, k _ e, r⟩
theorem xdOk {P : Program} {w : World} {H : Hp} {h : Heap} {x : Addr} {fs : List (Str × V)} (e : XdAt x fs h) : ObjOk P w H h x (.ext (XdAt x fs)) := by
  refine ⟨e, ?_, fun _ _ ⟨m, q1, q2, q3⟩ k => ⟨m, ns1_at q1 k, q2, q3⟩⟩
  obtain ⟨m, ⟨o, es, ep, q, _⟩, _⟩ := e
  exact ⟨o, q⟩
/-- its trace: none yet, or an entry that is younger than n and not tracked -/
def Trc (n : Nat) (H : Hp) (x : Addr) (h : Heap) : Prop := ∃ oe vs, h.get? x = some oe ∧ oe.data = .fields vs ∧ (vs[1]? = some Value.none ∨ ∃ T oT ts, vs[1]? = some (.ref T) ∧ T ≠ x ∧ n ≤ T ∧ H T = none ∧ h.get? T = some oT ∧ oT.data = .fields ts ∧ ts[3]? = some Value.none)
/-- an exception that has come out of a call -/
def CXe (P : Program) (w : World) : CXT := fun outer H s E e s' => ∃ (x C : Addr) (od : Option Addr) (H' : Hp), e = .ref x ∧ s'.os = s.os ∧ AllBare s'.gens ∧ Un (frs outer) [] H H' s.heap s'.heap ∧ HOk P w H' s'.heap ∧
  H' x = some (.ext (ExcAt x C od)) ∧ s.heap.objs.size ≤ x ∧ Trc s.heap.objs.size H' x s'.heap ∧ E (.ref x) od H'
section
variable {P : Program} {w : World} {K : PySem.W.Frag} {mg : Str → Option Value} {base : Heap} {N : List Str} {qual : Str} {scope : Scope} {f : Addr} {cd : Value} {A : Around} {outer : List Env} {s₀ s : Shared} {H₀ H : Hp} {E : XK} {pins : List (Addr × Obj)} {σ : St}
/-- a record leaves the def -/
theorem leave_ok {x C : Addr} {od : Option Addr} (I : Inv (cxOf (CXe P w) P w K mg base N qual scope f cd A outer s₀ H₀ E) pins σ H s) (hx : H x = some (.ext (ExcAt x C od))) (hn : s₀.heap.objs.size ≤ x) (ht : Trc s₀.heap.objs.size H x s.heap) (hE : E (.ref x) od H) :
    (cxOf (CXe P w) P w K mg base N qual scope f cd A outer s₀ H₀ E).xe (.ref x) s := by
  obtain ⟨oe, vs, he, hd, h1⟩ := ht
  have hfr : (A.deeper (envOfC qual scope s₀.heap.objs.size f cd)).frames = some (envOfC qual scope s₀.heap.objs.size f cd :: outer) := I.ok.frames
  have hl : s.heap.FunFrames base (envOfC qual scope s₀.heap.objs.size f cd :: outer) := I.stack
  have hfs : frs (envOfC qual scope s₀.heap.objs.size f cd :: outer) = s₀.heap.objs.size :: frs outer := rfl
  refine leave_x hfr hl rfl he hd (h1.imp id fun ⟨T, oT, ts, a1, a2, _, _, a5⟩ => ⟨T, oT, ts, a1, a2, a5⟩) fun h' T L => ?_
  have oeq : ∃ vs', oe = { cls := .ref C, dict := od, data := .fields vs' } := by
    obtain ⟨⟨vs', q⟩, _⟩ := (show ObjOk P w H s.heap x (.ext (ExcAt x C od)) from I.hok x _ hx)
    rw [he] at q
    exact ⟨vs', Option.some.inj q⟩
  obtain ⟨vs0, rfl⟩ := oeq
  have tne : ∀ b, (b < s₀.heap.objs.size ∨ H b ≠ none) → vs[1]? ≠ some (.ref b) := fun b hb e => by
    rcases h1 with q | ⟨T0, _, _, q, _, q1, q2, _⟩
    · rw [q] at e; cases e
    · rw [q] at e
      cases e
      rcases hb with hb | hb
      · exact absurd hb (Nat.not_lt.mpr q1)
      · exact hb q2
  have kp : ∀ b o, H b ≠ none → b ≠ x → s.heap.get? b = some o → h'.get? b = some o := fun b o hb hbx e => L.keep b o (fun hm => hb (I.stkFree b hm)) hbx (tne b (.inr hb)) e
  obtain ⟨vs', oT, ts, r1, r2, r3, r4, r5⟩ := L.rc
  refine ⟨x, C, od, H, rfl, I.os, I.bare, ⟨fun b o e n hb hx' => ?_, fun b o e n hb hx' => ?_, fun b o e n hx' => I.base.free b o e n hx', fun b o e hx' => ?_, I.base.tups, I.base.frzs, I.base.tbls⟩, fun b u e => ?_, hx, hn, ⟨_, vs', r1, rfl, .inr ⟨T, oT, ts, r2, ?_, ?_, I.hok.fresh L.new, r3, r4, r5⟩⟩, hE⟩
  · have lt := Heap.lt_size e
    have q := I.base.keep b o e n hb hx'
    refine L.keep b o (fun hm => ?_) (Nat.ne_of_lt (Nat.lt_of_lt_of_le lt hn)) (tne b (.inl lt)) q
    rw [hfs] at hm
    rcases List.mem_cons.mp hm with z | z
    · exact absurd lt (by rw [z]; exact Nat.lt_irrefl _)
    · exact hb z
  · obtain ⟨sl, q⟩ := I.base.slot b o e n hb hx'
    obtain ⟨sl', q'⟩ := L.slot b _ (by rw [hfs]; exact List.mem_cons_of_mem _ hb) q
    exact ⟨sl', q'⟩
  · obtain ⟨o', q⟩ := I.base.there b o e hx'
    exact L.there b o' q
  · by_cases hb : b = x
    · subst hb
      rw [hx] at e
      cases e
      exact excOk ⟨vs', r1⟩
    · refine (I.hok b u e).stay (fun c v hc q => ?_) (fun c q => q) (fun c xs q => q)
      rcases hc with rfl | hc
      · exact kp c v (by rw [e]; simp) hb q
      · exact kp c v (by rw [hc]; simp) (fun z => by rw [z, hx] at hc; cases hc) q
  · intro z
    have := Heap.lt_size he
    exact absurd L.new (Nat.not_le.mpr (by rw [z]; exact this))
  · exact Nat.le_trans I.sz L.new
/-- THE RULE for a def that may raise -/
theorem Fun.okX {x qual : Str} {st : Stmt} {f : Addr} {fd : FuncData} {N ps : List Str} {k : Nat} {sp : Sp} (F : Fun K x qual st f fd) (S : FnScope N ps (defScope st)) (len : ∀ vs H Q E, sp vs H Q E → vs.length = ps.length)
    (hbody : ∀ (cdv : Value) (A : Around) (outer : List Env) (s : Shared) (H : Hp) (vs : List V) (Q : VK) (E : XK), Room k (A.deeper (envOfC qual (defScope st) s.heap.objs.size f cdv)) → sp vs H Q E →
      ∃ t, PSs (cxOf (CXe P w) P w K mg base N qual (defScope st) f cdv A outer s H E) (defBody st) t ∧ t { nx := fun _ H' => Q .non H', rt := Q } (start N vs) H) : FnOk P w K mg base (CXe P w) (k + 1) f fd ps sp := by
  obtain ⟨oc, od, kV, doc, pm, an, cdv, ct, osl, rfl, lk, hcd⟩ := F.ex
  exact fn_of lk hcd S len fun A outer s H vs Q E hr hsp => hbody cdv A outer s H vs Q E hr hsp
end
end L2

set_option Elab.async false
set_option linter.all false
set_option maxRecDepth 100000
set_option maxHeartbeats 4000000
namespace L2
open PySem PySem.Spec PyProof.Rows
/-- a record that was made and not raised yet -/
def ExcNew (x C : Addr) (od : Option Addr) : Heap → Prop := fun h => ∃ t : Addr, h.get? x = some ({ cls := .ref C, dict := od, data := .fields #[.ref t, .none, .none, .none, .bool false, .none] } : Obj)
theorem excNewOk {P : Program} {w : World} {H : Hp} {h : Heap} {x C : Addr} {od : Option Addr} (e : ExcNew x C od h) : ObjOk P w H h x (.ext (ExcNew x C od)) :=
  ⟨e, let ⟨_, q⟩ := e; ⟨_, q⟩, fun _ _ ⟨vs, q⟩ k => ⟨vs, k _ q⟩⟩
section
variable {X : Cx} {pins : List (Addr × Obj)} {σ : St} {H : Hp} {s : Shared} {A : Around} {E : Value → Shared → Prop} {x C D dx : Addr} {fI : Addr} {f : Str}
theorem Inv.weaken {φ ψ : Heap → Prop} (I : Inv X pins σ H s) (e : H x = some (.ext φ)) (k : φ s.heap → ObjOk X.prog X.w (upd H x (.ext ψ)) s.heap x (.ext ψ)) : Inv X pins σ (upd H x (.ext ψ)) s := by
  obtain ⟨p, ⟨o, ho⟩, _⟩ := (show ObjOk X.prog X.w H s.heap x (.ext φ) from I.hok x _ e)
  exact I.write (x := x) (e := x) (h' := s.heap) (t' := s.toks) (by rw [e]; exact True.intro) (.inl rfl) (fun _ _ _ z => z) ⟨o, ho⟩ (k p)
theorem XCls.at (c : XCls X.K C D fI) (I : Inv X pins σ H s) : ∃ nm q N bs sn sub ab col dd k0 k1 k2 k3 k5, s.heap.get? C = some (excClassObj nm q C N bs (.ref D :: bmV) true sn sub ab col dd k0 k1 k2 k3 k5 "ValueError.__new__") := by
  obtain ⟨nm, q, N, bs, sn, sub, ab, col, dd, k0, k1, k2, k3, k5, l⟩ := c.obj
  exact ⟨nm, q, N, bs, sn, sub, ab, col, dd, k0, k1, k2, k3, k5, I.kIn _ _ l⟩
/-- the first value of a new record -/
theorem xset1 {y : V} {u : Value} {Q : Unit → Shared → Prop} (I : Inv X pins σ H s) (c : XCls X.K C D fI) (hna : NoAttr X.K C f) (e : H x = some (.ext (ExcNew x C none))) (ry : RelV y u)
    (h : ∀ dx s', H dx = none → dx ≠ x → Inv X pins σ (upd (upd H dx (.ext (XdAt dx [(f, y)]))) x (.ext (ExcNew x C (some dx)))) s' → Q () s') : wpAny (model X.prog X.w) A (setAttr (.ref x) f u) Q E s := by
  obtain ⟨nm, q, N, bs, sn, sub, ab, col, dd, k0, k1, k2, k3, k5, hC⟩ := c.at I
  obtain ⟨⟨t, hx⟩, _⟩ := (show ObjOk X.prog X.w H s.heap x (.ext (ExcNew x C none)) from I.hok x _ e)
  have In : s.heap.Inst x C (fun _ => none) := ⟨_, hx, rfl, (fun c z => by cases z), .inl ⟨rfl, fun _ => rfl⟩⟩
  obtain ⟨hp, g, d, tk, os⟩ := s
  refine store_X (ns := []) I.kIn hC c.sa hna In Within.nil (by decide) fun h' tk' st => ?_
  obtain ⟨⟨o1, g1, _, _, g4⟩, k1', k2'⟩ := st
  obtain ⟨dx, hx', hdx⟩ := k2' _ hx
  have hd : dx = hp.objs.size := by
    rcases hdx with z | ⟨_, z⟩
    · cases z
    · exact z
  have hdn : H dx = none := by rw [hd]; exact I.hok.fresh (Nat.le_refl _)
  have dxx : dx ≠ x := by rw [hd]; exact Nat.ne_of_gt (Heap.lt_size hx)
  rw [hx'] at g1
  cases g1
  have ns : h'.Ns1 dx (fun y => if y = f then some u else (fun _ => none) y) := by
    rcases g4 with ⟨z, _⟩ | ⟨d', z, _, z2⟩
    · cases z
    · cases z; exact z2
  have keep : ∀ b o, b ≠ x → hp.get? b = some o → h'.get? b = some o := fun b o hb eb => k1' b o hb (fun o0 dx0 e0 z => by rw [hx] at e0; cases e0; cases z) eb
  have nx : ∀ {b : Addr} {v : Option HO}, H b = v → v ≠ some (.ext (ExcNew x C none)) → b ≠ x := fun q n z => n (by rw [← q, z, e])
  have nd : ∀ {b : Addr} {v : HO}, H b = some v → b ≠ dx := fun q z => by rw [z, hdn] at q; cases q
  refine h dx _ hdn dxx (I.un (h' := h') (t' := tk') ⟨fun b o eb n _ _ => keep b o (nx n (by simp)) eb, fun b o eb n _ _ => ⟨o.slots, keep b o (nx n (by simp)) eb⟩, fun b o eb n _ => ?_, fun b o eb _ => ?_, fun b xs q => ?_, fun b o v q => ?_, fun b ps q => ⟨#[], ?_⟩⟩ fun b v q => ?_)
  · rw [upd_ne (nx n (by simp)), upd_ne (by rw [hd]; exact Nat.ne_of_lt (Heap.lt_size eb))]; exact n
  · by_cases z : b = x
    · subst z; exact ⟨_, hx'⟩
    · exact ⟨o, keep b o z eb⟩
  · rw [upd_ne (nx q (by simp)), upd_ne (nd q)]; exact q
  · rw [upd_ne (nx q (by simp)), upd_ne (nd q)]; exact q
  · rw [upd_ne (nx q (by simp)), upd_ne (nd q), q]; simp
  · by_cases z : b = x
    · subst z
      rw [upd_same] at q
      cases q
      exact excNewOk ⟨t, hx'⟩
    · rw [upd_ne z] at q
      by_cases z2 : b = dx
      · subst z2
        rw [upd_same] at q
        cases q
        refine xdOk ⟨_, ns, fun g => ?_, fun g hg => ?_⟩
        · show RelO (List.lookup g [(f, y)]) (if g = f then some u else none)
          by_cases c : g = f
          · rw [c]; simp only [List.lookup, beq_self_eq_true, if_true]; exact ry
          · have hb : (g == f) = false := beq_eq_false_iff_ne.mpr c
            simp only [List.lookup, hb, if_neg c]; exact trivial
        · by_cases c : g = f
          · simp [c]
          · exact absurd (if_neg c) hg
      · rw [upd_ne z2] at q
        have own : ∀ {c d : Addr}, H c = some (.own d) → upd (upd H dx (.ext (XdAt dx [(f, y)]))) x (.ext (ExcNew x C (some dx))) c = some (.own d) := fun q => by rw [upd_ne (nx q (by simp)), upd_ne (nd q)]; exact q
        refine (I.hok b v q).stay (fun c' w' hc q' => keep c' w' ?_ q') (fun c' q' => own q') (fun c' xs q' => by rw [upd_ne (nx q' (by simp)), upd_ne (nd q')]; exact q')
        rcases hc with rfl | hc
        · exact z
        · exact nx hc (by simp)
/-- .. and the next ones -/
theorem xset2 {y : V} {u : Value} {fs : List (Str × V)} {Q : Unit → Shared → Prop} (I : Inv X pins σ H s) (c : XCls X.K C D fI) (hna : NoAttr X.K C f) (e : H x = some (.ext (ExcNew x C (some dx)))) (ed : H dx = some (.ext (XdAt dx fs))) (dxx : dx ≠ x) (hl : fs.length ≤ 100) (ry : RelV y u)
    (h : ∀ s', Inv X pins σ (upd H dx (.ext (XdAt dx (putF f y fs)))) s' → Q () s') : wpAny (model X.prog X.w) A (setAttr (.ref x) f u) Q E s := by
  obtain ⟨nm, q, N, bs, sn, sub, ab, col, dd, k0, k1, k2, k3, k5, hC⟩ := c.at I
  obtain ⟨⟨t, hx⟩, _⟩ := (show ObjOk X.prog X.w H s.heap x (.ext (ExcNew x C (some dx))) from I.hok x _ e)
  obtain ⟨⟨mA, ns, rel, wi⟩, _⟩ := (show ObjOk X.prog X.w H s.heap dx (.ext (XdAt dx fs)) from I.hok dx _ ed)
  have In : s.heap.Inst x C mA := ⟨_, hx, rfl, (fun c z => by cases z), .inr ⟨dx, rfl, dxx, ns⟩⟩
  obtain ⟨hp, g, d, tk, os⟩ := s
  refine store_X (ns := fs.map (·.1)) I.kIn hC c.sa hna In wi (by rw [List.length_map]; omega) fun h' tk' st => ?_
  obtain ⟨⟨o1, g1, _, _, g4⟩, k1', k2'⟩ := st
  obtain ⟨dx', hx', hdx⟩ := k2' _ hx
  have hdd : dx' = dx := by
    rcases hdx with z | ⟨z, _⟩
    · cases z; rfl
    · cases z
  subst hdd
  rw [hx'] at g1
  cases g1
  have ns' : h'.Ns1 dx' (fun y => if y = f then some u else mA y) := by
    rcases g4 with ⟨z, _⟩ | ⟨d', z, _, z2⟩
    · cases z
    · cases z; exact z2
  refine h _ (I.write (x := dx') (e := dx') (h' := h') (t' := tk') (by rw [ed]; exact True.intro) (.inl rfl) (fun b o hb eb => ?_) ?_ (xdOk ⟨_, ns', fun g => ?_, fun g hg => ?_⟩))
  · by_cases z : b = x
    · subst z
      have eb : hp.get? b = some o := eb
      rw [hx] at eb; cases eb; exact hx'
    · exact k1' b o z (fun o0 dx0 e0 z2 => by rw [hx] at e0; cases e0; cases z2; exact hb) eb
  · obtain ⟨o, es, ep, q, _⟩ := ns'; exact ⟨o, q⟩
  · show RelO ((putF f y fs).lookup g) (if g = f then some u else mA g)
    rw [lookup_putF]
    by_cases c : g = f
    · rw [if_pos c, if_pos c]; exact ry
    · rw [if_neg c, if_neg c]; exact rel g
  · by_cases c : g = f
    · rw [c]; exact (keys_putF f y fs).1
    · exact (keys_putF f y fs).2 g (wi g fun z => hg (by show (if g = f then some u else mA g) = none; rw [if_neg c]; exact z))
end
/-- self.f = value, of a new record -/
def sXset (K : PySem.W.Frag) (ta tv : TE) (f : Str) : TS := fun Dn σ H => tv σ H fun y H1 => ta σ H1 fun v H2 => ∃ x C D fI od, v = .ref x ∧ XCls K C D fI ∧ NoAttr K C f ∧ H2 x = some (.ext (ExcNew x C od)) ∧
  ((od = none ∧ ∀ dx, H2 dx = none → dx ≠ x → Dn.nx σ (upd (upd H2 dx (.ext (XdAt dx [(f, y)]))) x (.ext (ExcNew x C (some dx))))) ∨
   ∃ dx fs, od = some dx ∧ H2 dx = some (.ext (XdAt dx fs)) ∧ dx ≠ x ∧ fs.length ≤ 100 ∧ Dn.nx σ (upd H2 dx (.ext (XdAt dx (putF f y fs)))))
section
variable {X : Cx} {o value : Expr} {f : Str} {pos pos' : Pos} {ta tv : TE}
theorem ps_xset (ha : PE X o ta) (hv : PE X value tv) (hs : swapsWith value (some (.Attribute o f pos')) pos.line X.env = pure false := by rfl) : PS X (.Assign [.Attribute o f pos'] value pos) (sXset X.K ta tv f) := by
  intro pins s σ H Dn I h
  refine plainObj_wpAny_Assign_Attribute (thn (hv pins s σ H _ I h) fun u s1 ⟨y, H1, I1, ry, q⟩ => thn (ha pins s1 σ H1 _ I1 q) fun ov s2 ⟨v, H2, I2, rx, x, C, D, fI, od, ex, c, na, e, q2⟩ => ?_) hs
  subst ex
  obtain rfl : ov = Value.ref x := rx
  rcases q2 with ⟨rfl, q2⟩ | ⟨dx, fs, rfl, ed, dxx, hl, q2⟩
  · exact xset1 I2 c na e ry fun dx s3 n1 n2 I3 => ⟨σ, _, I3, q2 dx n1 n2⟩
  · exact xset2 I2 c na e ed dxx hl ry fun s3 I3 => ⟨σ, _, I3, q2⟩
end
end L2

set_option Elab.async false
set_option linter.all false
set_option maxRecDepth 100000
set_option maxHeartbeats 4000000
namespace L2
open PySem PySem.Spec PyProof.Rows
section
variable {X : Cx} {k : Nat} {C D fI : Addr} {fd : FuncData} {ps : List Str} {sp : Sp}
/-- a record is made: C(..), its __init__ runs -/
theorem run_makeX {pins : List (Addr × Obj)} {σ : St} {H : Hp} {s : Shared} {Q : VK} {us : List Value} {vs : List V} (c : XCls X.K C D fI) (F : FnOk X.prog X.w X.K X.mg X.base CX0 k fI fd ps sp) (hr : Room (k + 1) X.A) (hb : Binds X.K fd ps []) (I : Inv X pins σ H s) (r : Vals vs us) (hl : vs.length ≤ 100)
    (h : ∀ x, H x = none → s.heap.objs.size ≤ x → ∃ Q' : VK, sp (.ref x :: vs) (upd H x (.ext (ExcNew x C none))) Q' E0 ∧ ∀ v H2, Q' v H2 → v = .non ∧ Q (.ref x) H2) : wpAny (model X.prog X.w) X.A (call (.ref C) us) (EP X pins σ Q) X.xe s := by
  obtain ⟨nm, q, N, bs, sn, sub, ab, col, dd, k0, k1, k2, k3, k5, hC⟩ := c.at I
  have hrest : us.length ≤ sizeLine := by rw [← r.length]; exact sz (by omega)
  obtain ⟨oI, hoI, hcI⟩ : ∃ oI, s.heap.get? fI = some oI ∧ oI.cls = .type "function" := by
    have e : PySem.W.typeIn X.K (.ref fI) = some (.type "function") := by simpa [PySem.W.isFn] using c.fn
    simp only [PySem.W.typeIn] at e
    cases hk : X.K.lookup fI with
    | none => rw [hk] at e; cases e
    | some oI => rw [hk] at e; exact ⟨oI, I.kIn _ _ hk, Option.some.inj e⟩
  have T := c.tl _ I.kIn
  obtain ⟨hp, g, d, tk, os⟩ := s
  refine call_I T hC I.kIn c.ini hoI hcI hrest fun h' e he hm => ?_
  obtain ⟨t, ht, htn, htt⟩ := hm.there
  have hn : H e = none := I.hok.fresh he
  have I2 : Inv X pins σ (upd H e (.ext (ExcNew e C none))) ⟨h', g, d, tk, os⟩ := I.laid (t' := tk) hm.keeps he (excNewOk ⟨t, ht⟩)
  obtain ⟨Q', hq, hQ⟩ := h e hn he
  have r2 : Vals (V.ref e :: vs) (Value.ref e :: us) := .cons rfl r
  have hl2 : (Value.ref e :: us).length = ps.length := by rw [← r2.length]; exact F.len _ _ _ _ hq
  have hb2 := hb ⟨h', g, d, tk, os⟩ (Value.ref e :: us) I2.kIn (by rw [List.append_nil]; exact hl2)
  rw [List.append_nil] at hb2
  refine wpAny_call (codeAny_mono (F.run _ X.stack _ _ ⟨Value.ref e :: us, []⟩ (Value.ref e :: us) _ _ E0 (hr.make C us []) (I2.env0.make C us []) hb2 r2 hq) fun r s' hq' => ?_)
  cases r with
  | error e => exact hq'.elim
  | ok fl =>
    cases fl with
    | ret u =>
      obtain ⟨v, H', I3, rv, q3⟩ := I2.after hq'
      obtain ⟨ev, q4⟩ := hQ _ _ q3
      subst ev
      exact ⟨rv, ⟨V.ref e, H', I3, rfl, q4⟩⟩
    | next => exact False.elim hq'
    | brk => exact False.elim hq'
    | cont => exact False.elim hq'
end
/-- raise, of a record that was made just now -/
theorem raise_X {M : Model} {A : Around} {E : Value → Shared → Prop} {s : Shared} {env : Env} {nm q : Str} {C N D : Addr} {bs : List Value} {sn : List Str} {sub : List Value} {ab : Bool} {col : Option Bool} {dd : Option Addr} {k0 k1 k2 k3 k5 : Option Value} {y : Sem Value} {Q : Flow → Shared → Prop} (hh : A.handled = none)
    (h : wpAny M A y (fun v s₁ => ∃ (e t : Addr) (od : Option Addr), v = .ref e ∧ s₁.heap.get? C = some (excClassObj nm q C N bs (.ref D :: bmV) true sn sub ab col dd k0 k1 k2 k3 k5 "ValueError.__new__") ∧
      s₁.heap.get? e = some ({ cls := .ref C, dict := od, data := .fields #[.ref t, .none, .none, .none, .bool false, .none] } : Obj) ∧ E (.ref e) s₁) E s) : wpAny M A (raiseStmt env (some y) none) Q E s := by
  have hcB : (Value.ref C :: Value.ref D :: bmV).contains (.type "BaseException") = true := by rw [List.contains_cons, List.contains_cons, show bmV.contains (.type "BaseException") = true by decide +kernel, Bool.or_true, Bool.or_true]
  unfold raiseStmt
  refine wpAny_bind (wpAny_mono h (fun v s₁ h₁ => ?_) fun _ _ z => z)
  obtain ⟨e, t, od, rfl, hC, he, hE⟩ := h₁
  obtain ⟨hp, g, d, tk, os⟩ := s₁
  repeat (first | with_reducible refine wpAny_loadPart_at he ?_ | with_reducible refine wpAny_loadPart_at hC ?_ | (with_reducible refine wpAny_isSubtype_exc hC ?_; rw [hcB]) | wp_step)
  exact wpAny_raiseNew_none hh hE
/-- what raising asks -/
def tRaise (C : Addr) (sp : Sp) (E : XK) (ta : TA) : TS := fun _ σ H => ta σ H fun vs H1 => vs.length ≤ 100 ∧ ∀ x, H1 x = none → sp (.ref x :: vs) (upd H1 x (.ext (ExcNew x C none))) (fun v H2 => v = .non ∧ ∃ od, H2 x = some (.ext (ExcNew x C od)) ∧ E (.ref x) od (upd H2 x (.ext (ExcAt x C od)))) E0
section
variable {P : Program} {w : World} {K : PySem.W.Frag} {mg : Str → Option Value} {base : Heap} {N : List Str} {qual : Str} {scope : Scope} {f : Addr} {cd : Value} {A : Around} {outer : List Env} {s₀ : Shared} {H₀ : Hp} {E : XK} {k : Nat} {C D fI : Addr} {fd : FuncData} {ps : List Str} {sp : Sp}
theorem ps_raise {x : Str} {np cpos pos : Pos} {e : Expr} {es : List Expr} {ta : TA} (c : XCls K C D fI) (F : FnOk P w K mg base CX0 k fI fd ps sp) (hr : Room (k + 1) (A.deeper (envOfC qual scope s₀.heap.objs.size f cd))) (hb : Binds K fd ps [])
    (hg : Gl (cxOf (CXe P w) P w K mg base N qual scope f cd A outer s₀ H₀ E) x) (hm : mg x = some (.ref C)) (ha : PA (cxOf (CXe P w) P w K mg base N qual scope f cd A outer s₀ H₀ E) (e :: es) ta)
    (hdb : (x == ("__debug__" : Str)) = false := by decide) (he : starEach (e :: es) (cxOf (CXe P w) P w K mg base N qual scope f cd A outer s₀ H₀ E).env = (false, eval e (cxOf (CXe P w) P w K mg base N qual scope f cd A outer s₀ H₀ E).env) :: starEach es (cxOf (CXe P w) P w K mg base N qual scope f cd A outer s₀ H₀ E).env := by rfl)
    (hpl : (backTo cpos (starEach es (cxOf (CXe P w) P w K mg base N qual scope f cd A outer s₀ H₀ E).env)).any (·.1) = false := by rfl) :
    PS (cxOf (CXe P w) P w K mg base N qual scope f cd A outer s₀ H₀ E) (.Raise (some (.Call (.Name x np) (e :: es) [] cpos)) none pos) (tRaise C sp E ta) := by
  intro pins s σ H Dn I h
  obtain ⟨nm, q, N', bs, sn, sub, ab, col, dd, k0, k1, k2, k3, k5, hC⟩ := c.obj
  rw [arm_exec_Raise]
  refine wpAny_bind (wpAny_standAt (raise_X (C := C) (D := D) (nm := nm) (q := q) (N := N') (bs := bs) (sn := sn) (sub := sub) (ab := ab) (col := col) (dd := dd) (k0 := k0) (k1 := k1) (k2 := k2) (k3 := k3) (k5 := k5) (I.ok.hd rfl) ?_))
  have main : wpAny (model P w) (A.deeper (envOfC qual scope s₀.heap.objs.size f cd)) (eval (.Call (.Name x np) (e :: es) [] cpos) (envOfC qual scope s₀.heap.objs.size f cd)) (EP (cxOf (CXe P w) P w K mg base N qual scope f cd A outer s₀ H₀ E) pins σ (fun v H2 => ∃ x od, v = .ref x ∧ s₀.heap.objs.size ≤ x ∧ H2 x = some (.ext (ExcNew x C od)) ∧ E (.ref x) od (upd H2 x (.ext (ExcAt x C od))))) (cxOf (CXe P w) P w K mg base N qual scope f cd A outer s₀ H₀ E).xe s := by
    refine wpAny_Call_Name_kw (ld_glob I hg hm ?_ hdb)
    refine PySem.W.callWith_K (h₀ := base) I.ok.mod.kin c.kp (thn (ha cpos pins s σ H _ I h) fun us s1 ⟨vs, H1, I1, r, hl, q⟩ => ⟨I1.kIn, ?_⟩) he hpl
    refine run_makeX c F hr hb I1 r hl fun x hx hxs => ⟨_, q x hx, fun v H2 ⟨ev, od, q1, q2⟩ => ⟨ev, x, od, rfl, Nat.le_trans I1.sz hxs, q1, q2⟩⟩
  refine wpAny_bind (wpAny_mono main (fun v s3 h3 => wpAny_bind (wpAny_standAt (wpAny_pure ?_))) fun _ _ z => z)
  obtain ⟨v', H2, I2, rv, x, od, rfl, hxs, hx, hE⟩ := h3
  obtain rfl : v = Value.ref x := rv
  obtain ⟨⟨t, ht⟩, _⟩ := (show ObjOk P w H2 s3.heap x (.ext (ExcNew x C od)) from I2.hok x _ hx)
  have I3 := I2.weaken (ψ := ExcAt x C od) hx fun ⟨t, ht⟩ => excOk ⟨_, ht⟩
  refine ⟨x, t, od, rfl, I2.kIn _ _ hC, ht, leave_ok I3 (upd_same ..) hxs ⟨_, _, ht, rfl, .inl rfl⟩ hE⟩
end
end L2

set_option Elab.async false
set_option linter.all false
set_option maxRecDepth 100000
set_option maxHeartbeats 4000000
namespace L2
open PySem PySem.Spec PyProof.Rows
section
variable {M : Model} {A : Around} {E : Value → Shared → Prop} {s : Shared}
/-- an exception is caught: the same two steps, one after the other -/
theorem catch_x {base : Heap} {env : Env} {outer : List Env} {L x : Addr} {oe : Obj} {vs : Array Value} {Q : Unit → Shared → Prop} (hfr : A.frames = some (env :: outer)) (hl : s.heap.FunFrames base (env :: outer)) (hf : env.frame = some L)
    (he : s.heap.get? x = some oe) (hd : oe.data = .fields vs) (h1 : vs[1]? = some .none ∨ ∃ T0 oT ts, vs[1]? = some (.ref T0) ∧ T0 ≠ x ∧ s.heap.get? T0 = some oT ∧ oT.data = .fields ts ∧ ts[3]? = some Value.none)
    (h : ∀ h' T, Lft (frs (env :: outer)) x oe vs s.heap h' T → Q () { s with heap := h' }) : wpAny M A (noteFrame (.ref x) env) (fun _ s' => wpAny M A (setFlight (.ref x) none) Q E s') E s := by
  unfold noteFrame
  simp only [hf]
  rcases h1 with h1 | ⟨T0, oT, ts, h1, hTx, hT, hdT, h3⟩
  · refine wpAny_bind (wpAny_field he hd h1 ?_)
    rw [if_neg (by decide)]
    refine entry_x hfr hl hf he hd (Array.getElem?_eq_some_iff.mp h1).1 fun h' T k1 k2 k3 k4 => h h' T ⟨fun b o hb hbx _ e => k1 b o hb hbx e, k2, fun b o e => ?_, k3, k4⟩
    by_cases c : b ∈ frs (env :: outer)
    · obtain ⟨sl, q⟩ := k2 b o c e; exact ⟨_, q⟩
    · by_cases c2 : b = x
      · obtain ⟨_, _, _, q, _⟩ := k3; exact ⟨_, c2 ▸ q⟩
      · exact ⟨o, k1 b o c c2 e⟩
  · refine wpAny_bind (wpAny_field he hd h1 ?_)
    rw [if_pos (by simp : (Value.ref T0 != Value.none) = true)]
    refine wpAny_bind (wpAny_field hT hdT h3 ?_)
    rw [if_neg (by simp [rawInt] : ¬ ((Value.none == rawInt L) = true))]
    refine wpAny_bind (wpAny_setField hT hdT (Array.getElem?_eq_some_iff.mp h3).1 ?_)
    have oth : ∀ b, b ≠ T0 → (s.heap.update T0 (Obj.mapFields (·.setIfInBounds 3 Value.none))).get? b = s.heap.get? b := fun b hb => Heap.get?_update_other _ _ (Ne.symm hb)
    have hTf : T0 ∉ frs (env :: outer) := fun hm => by
      obtain ⟨_, o, ho, hnf⟩ := hl.mem hm
      rw [hT] at ho; cases ho; exact hnf ts hdT
    have hTn := Heap.get?_update_self (Obj.mapFields (·.setIfInBounds 3 Value.none)) hT (Obj.isFreed_of_fields (Obj.data_mapFields hdT _))
    have hl' : (s.heap.update T0 (Obj.mapFields (·.setIfInBounds 3 Value.none))).FunFrames base (env :: outer) := hl.of_keeps fun b o hb hnf => ⟨o, (oth b fun q => by subst q; rw [hT] at hb; cases hb; exact hnf ts hdT).trans hb, rfl⟩
    have hsz : (s.heap.update T0 (Obj.mapFields (·.setIfInBounds 3 Value.none))).objs.size = s.heap.objs.size := Heap.size_after_update ..
    refine entry_x hfr hl' hf ((oth x (Ne.symm hTx)).trans he) hd (Array.getElem?_eq_some_iff.mp h1).1 fun h' T k1 k2 k3 k4 => h h' T ⟨fun b o hb hbx hbT e => k1 b o hb hbx ((oth b fun q => hbT (by rw [q]; exact h1)).trans e), fun b o hb e => k2 b o hb ((oth b fun q => hTf (q ▸ hb)).trans e), fun b o e => ?_, k3, by rw [← hsz]; exact k4⟩
    by_cases c : b ∈ frs (env :: outer)
    · obtain ⟨sl, q⟩ := k2 b o c ((oth b fun q => hTf (q ▸ c)).trans e); exact ⟨_, q⟩
    · by_cases c2 : b = x
      · obtain ⟨_, _, _, q, _⟩ := k3; exact ⟨_, c2 ▸ q⟩
      · by_cases c3 : b = T0
        · subst c3; exact ⟨_, k1 b _ c c2 hTn⟩
        · exact ⟨o, k1 b o c c2 ((oth b c3).trans e)⟩
end
/-- the entry of a caught record -/
def Ent (x T : Addr) (h : Heap) : Prop := ∃ oe vs oT ts, h.get? x = some oe ∧ oe.data = .fields vs ∧ vs[1]? = some (.ref T) ∧ h.get? T = some oT ∧ oT.data = .fields ts ∧ ts[3]? = some Value.none
section
variable {X : Cx} {pins : List (Addr × Obj)} {σ : St} {H : Hp} {s : Shared} {A : Around} {E : Value → Shared → Prop} {x C T : Addr} {od : Option Addr}
theorem Inv.left {oe : Obj} {vs : Array Value} {h' : Heap} (I : Inv X pins σ H s) (hx : H x = some (.ext (ExcAt x C od))) (he : s.heap.get? x = some oe) (hd : oe.data = .fields vs) (ht : ∀ b, vs[1]? = some (.ref b) → FpOk X pins H b) (L : Lft (frs X.stack) x oe vs s.heap h' T) : Inv X pins σ H { s with heap := h' } := by
  have nx : ∀ {b : Addr}, H b = none → b ≠ x := fun n z => by rw [z, hx] at n; cases n
  obtain ⟨m, ⟨o0, es, ep, ho, r⟩, _⟩ := id I.loc
  have key : ∀ (ch : List Addr), (∀ b, vs[1]? = some (.ref b) → b ∈ ch) → (∀ b ∈ ch, FpOk X pins H b) → Inv X pins σ H { s with heap := h' } := fun ch c1 c2 => by
    have keep : ∀ b o, b ∉ frs X.stack → b ≠ x → b ∉ ch → s.heap.get? b = some o → h'.get? b = some o := fun b o hb hbx hc e => L.keep b o hb hbx (fun z => hc (c1 b z)) e
    have any : ∀ b o, b ≠ x → b ∉ ch → s.heap.get? b = some o → ∃ sl, h'.get? b = some { o with slots := sl } := fun b o hbx hc e => by
      by_cases z : b ∈ frs X.stack
      · exact L.slot b o z e
      · exact ⟨o.slots, keep b o z hbx hc e⟩
    have nch : ∀ {b : Addr} {u : HO}, H b = some u → b ∉ ch := fun q z => by rw [(c2 _ z).1] at q; cases q
    have nst : ∀ {b : Addr} {u : HO}, H b = some u → b ∉ frs X.stack := fun q z => by rw [I.stkFree _ z] at q; cases q
    refine I.step (g' := s.gens) (d' := s.drawn) (t' := s.toks) (ch := ch) (fun b hb => ⟨(c2 b hb).2.2.2.1, (c2 b hb).2.1, (c2 b hb).2.2.2.2.1, (c2 b hb).2.2.2.2.2⟩) (fun b o hL hb hc e n => keep b o (fun z => (List.mem_cons.mp (I.stkSub b z)).elim hL hb) (nx n) hc e) (fun b o _ _ hc e n => any b o (nx n) hc e) (fun _ _ _ _ n => n) (fun b o _ e => L.there b o e) (fun _ _ e => e) (fun _ _ _ e => e) (fun b ps e => ⟨#[], by rw [e]; simp⟩) (fun m' hm => ?_) (fun b u e => ?_) I.bare
    · obtain ⟨o', es', ep', ho', r'⟩ := hm
      obtain ⟨sl, hL⟩ := any X.env.locals o' (nx I.free) (fun z => (c2 _ z).2.1 rfl) ho'
      exact ⟨_, es', ep', hL, r'⟩
    · by_cases hb : b = x
      · subst hb
        rw [hx] at e
        cases e
        obtain ⟨⟨vs0, q0⟩, _⟩ := (show ObjOk X.prog X.w H s.heap b (.ext (ExcAt b C od)) from I.hok b _ hx)
        rw [he] at q0
        obtain rfl := Option.some.inj q0
        obtain ⟨vs', oT, ts, r1, _⟩ := L.rc
        exact excOk ⟨vs', r1⟩
      · refine (I.hok b u e).stay (fun c v hc q => ?_) (fun c q => q) (fun c xs q => q)
        rcases hc with rfl | hc
        · exact keep c v (nst e) hb (nch e) q
        · exact keep c v (nst hc) (fun z => by rw [z, hx] at hc; cases hc) (nch hc) q
  cases hv : vs[1]? with
  | none => exact key [] (fun b z => by rw [hv] at z; cases z) (fun _ z => nomatch z)
  | some w =>
    cases w with
    | ref b => exact key [b] (fun b' z => by rw [hv] at z; cases z; simp) (fun b' z => by
        have e : b' = b := by simpa using z
        rw [e]; exact ht b hv)
    | _ => exact key [] (fun b z => by rw [hv] at z; cases z) (fun _ z => nomatch z)
/-- caught -/
theorem catch_ok {n : Nat} {Q : Unit → Shared → Prop} (I : Inv X pins σ H s) (hst : X.stack = X.env :: X.outer) (hfr : X.env.frame = some X.env.locals) (hx : H x = some (.ext (ExcAt x C od))) (ht : Trc n H x s.heap) (hn : ∀ b, n ≤ b → H b = none → FpOk X pins H b)
    (h : ∀ s' T, Inv X pins σ H s' → FpOk X pins H T → Ent x T s'.heap → Q () s') : wpAny (model X.prog X.w) X.A (noteFrame (.ref x) X.env) (fun _ s' => wpAny (model X.prog X.w) X.A (setFlight (.ref x) none) Q E s') E s := by
  obtain ⟨oe, vs, he, hd, h1⟩ := ht
  refine catch_x (base := X.base) (by rw [← hst]; exact I.ok.frames) (by rw [← hst]; exact I.stack) hfr he hd (h1.imp id fun ⟨T, oT, ts, a1, a2, _, _, a5⟩ => ⟨T, oT, ts, a1, a2, a5⟩) fun h' T L => ?_
  rw [← hst] at L
  have I' := I.left hx he hd (fun b z => by
    rcases h1 with q | ⟨T0, _, _, q, _, q1, q2, _⟩
    · rw [q] at z; cases z
    · rw [q] at z; cases z; exact hn b q1 q2) L
  obtain ⟨vs', oT, ts, r1, r2, r3, r4, r5⟩ := L.rc
  exact h _ T I' (I.fpOk L.new (I.hok.fresh L.new)) ⟨_, vs', oT, ts, r1, rfl, r2, r3, r4, r5⟩
/-- setFlight, once more -/
theorem flight_ok {M : Model} {Q : Unit → Shared → Prop} (I : Inv X pins σ H s) (hT : FpOk X pins H T) (he : Ent x T s.heap) (hx : H x ≠ none) (h : ∀ s', Inv X pins σ H s' → Q () s') : wpAny M A (setFlight (.ref x) none) Q E s := by
  obtain ⟨oe, vs, oT, ts, e1, e2, e3, e4, e5, e6⟩ := he
  unfold setFlight
  refine wpAny_bind (wpAny_field e1 e2 e3 ?_)
  rw [if_pos (by simp : (Value.ref T != Value.none) = true)]
  refine wpAny_setField e4 e5 (Array.getElem?_eq_some_iff.mp e6).1 (h _ (I.turned (it := T) (t' := s.toks) (fun b o hb e => (Heap.get?_update_other _ _ (Ne.symm hb)).trans e) hT.1 hT.2.1 hT.2.2.2.1 hT.2.2.2.2.1 hT.2.2.2.2.2))
/-- the name of an except suite goes -/
theorem goes_ok {M : Model} {i : Nat} {n : Str} {pos : Pos} {Q : Unit → Shared → Prop} (I : Inv X pins σ H s) (hN : X.N.Nodup) (hi : X.N[i]? = some n) (hl : X.env.kindOf n = some .local) (h : ∀ s', Inv X pins (σ.set i none) H s' → Q () s') :
    wpAny M A (do bindName X.env n .none; unbindBehindTheSuite X.env n pos) Q E s := by
  have hp : (X.env.scope.kind == .class || (X.env.scope.kind == .module && X.env.locals != X.env.globals)) = false := by rw [I.ok.kind]; rfl
  refine wpAny_bind (wpAny_bindName (store_ok I hN hi (.inl hl) (v := .non) rfl (fun s1 I1 => ?_) (.inr hl)))
  unfold unbindBehindTheSuite
  refine wpAny_onRaise ?_
  unfold unbindName
  refine wpAny_bind (wpAny_point (wpAny_bind ?_))
  unfold deleteName
  simp only [hl, hp]
  rw [if_neg (by decide)]
  obtain ⟨m, hn, hlk⟩ := id I1.loc
  have hiσ : i < σ.length := by rw [I.len]; exact (List.getElem?_eq_some_iff.mp hi).1
  have hmn : m n = some .none := by
    obtain ⟨u, ru, q⟩ := hlk i n .non hi (by rw [List.getElem?_set_self hiσ]) (.inl hl)
    cases ru
    rcases q with ⟨_, q⟩ | ⟨q, _⟩
    · exact q
    · rw [hl] at q; rcases q with q | q <;> cases q
  refine wpAny_bind (wpAny_nsDel_keeps hn fun h₂ v hn₂ hs => ?_)
  rw [hmn]
  simp only [if_true, Option.isSome_some, Bool.not_true, Bool.false_eq_true, if_false]
  refine wpAny_pure (wpAny_point (h _ ?_))
  have cne := I1.cne
  obtain ⟨oL, _, _, hoL, _⟩ := id hn
  refine ⟨I1.ok, I1.os, I1.bare, ⟨fun b o e n hb hx => ?_, fun b o e n hb hx => ?_, I1.base.free, fun b o e hx => ?_, I1.base.tups, I1.base.frzs, I1.base.tbls⟩, ⟨_, hn₂, fun j y v' e1 e2 e3 => ?_⟩, fun y c e => ?_, I1.free, I1.freeC, fun p hp => ?_, fun b ob e => ?_, by simpa using I.len⟩
  · exact (hs.2 b (Nat.ne_of_lt (Nat.lt_of_lt_of_le (Heap.lt_size e) I.ok.above))).trans (I1.base.keep b o e n hb hx)
  · obtain ⟨sl, e1⟩ := I1.base.slot b o e n hb hx
    exact ⟨sl, (hs.2 b (Nat.ne_of_lt (Nat.lt_of_lt_of_le (Heap.lt_size e) I.ok.above))).trans e1⟩
  · obtain ⟨o', e1⟩ := I1.base.there b o e hx
    exact ⟨o', (hs.2 b (Nat.ne_of_lt (Nat.lt_of_lt_of_le (Heap.lt_size e) I.ok.above))).trans e1⟩
  · by_cases hj : j = i
    · subst hj
      rw [List.getElem?_set_self hiσ] at e2
      cases e2
    · rw [List.getElem?_set_ne (Ne.symm hj)] at e2
      obtain ⟨u', r', q⟩ := hlk j y v' e1 (by rw [List.getElem?_set_ne (Ne.symm hj)]; exact e2) e3
      refine ⟨u', r', ?_⟩
      rcases q with ⟨k, e⟩ | ⟨k, c, e, z⟩
      · refine .inl ⟨k, ?_⟩
        have : y ≠ n := fun e => hj (nodup_ix hN e1 (e ▸ hi))
        simp [this, e]
      · exact .inr ⟨k, c, e, z.sameBut hs (cne y c e)⟩
  · obtain ⟨w', z⟩ := I1.cell y c e
    exact ⟨w', z.sameBut hs (cne y c e)⟩
  · obtain ⟨e, n, ne, nf, d⟩ := I1.pin p hp
    exact ⟨(hs.2 p.1 ne).trans e, n, ne, nf, d⟩
  · refine (I1.hok b ob e).stay (fun c w' hc q => (hs.2 c ?_).trans q) (fun _ q => q) fun _ _ q => q
    rintro rfl
    rcases hc with z | hc
    · rw [← z] at e; rw [I1.free] at e; cases e
    · rw [I1.free] at hc; cases hc
end
end L2

set_option Elab.async false
set_option linter.all false
set_option maxRecDepth 100000
set_option maxHeartbeats 4000000
namespace L2
open PySem PySem.Spec PyProof.Rows
/-- a class of exceptions: its bases in their order -/
def XMr (K : PySem.W.Frag) (C : Addr) (l : List Value) : Prop := ∃ nm q N bs sn sub ab col dd k0 k1 k2 k3 k5, K.lookup C = some (excClassObj nm q C N bs l true sn sub ab col dd k0 k1 k2 k3 k5 "ValueError.__new__")
theorem XCls.mr {K : PySem.W.Frag} {C D fI : Addr} (c : XCls K C D fI) : XMr K C (.ref D :: bmV) := c.obj
/-- within an except suite -/
def Cx.hdl (X : Cx) (x : Addr) : Cx := { X with A := X.A.mark (some (.ref x)), calm := false, xe := fun _ _ => False }
def Cx.quiet (X : Cx) : Cx := { X with xe := fun _ _ => False }
section
variable {X : Cx} {pins : List (Addr × Obj)} {σ : St} {H : Hp} {s : Shared} {A : Around} {E : Value → Shared → Prop} {x C T : Addr} {od : Option Addr}
theorem Inv.to (I : Inv X pins σ H s) : Inv (X.hdl x) pins σ H s :=
  ⟨⟨I.ok.mod, I.ok.kind, I.ok.glob, I.ok.blt, I.ok.above, I.ok.inj, I.ok.has, I.ok.cab, (fun z => by cases z), I.ok.frames, I.ok.stk, I.ok.exf, I.ok.bs, I.ok.bsz, I.ok.noex, I.ok.exfs, I.ok.funs, I.ok.frf⟩, I.os, I.bare, I.base, I.loc, I.cell, I.free, I.freeC, I.pin, I.hok, I.len⟩
theorem Inv.fro (ok : X.Ok) (I : Inv (X.hdl x) pins σ H s) : Inv X pins σ H s := ⟨ok, I.os, I.bare, I.base, I.loc, I.cell, I.free, I.freeC, I.pin, I.hok, I.len⟩
theorem Inv.toQ (I : Inv X pins σ H s) : Inv X.quiet pins σ H s :=
  ⟨⟨I.ok.mod, I.ok.kind, I.ok.glob, I.ok.blt, I.ok.above, I.ok.inj, I.ok.has, I.ok.cab, I.ok.hd, I.ok.frames, I.ok.stk, I.ok.exf, I.ok.bs, I.ok.bsz, I.ok.noex, I.ok.exfs, I.ok.funs, I.ok.frf⟩, I.os, I.bare, I.base, I.loc, I.cell, I.free, I.freeC, I.pin, I.hok, I.len⟩
theorem Inv.froQ (ok : X.Ok) (I : Inv X.quiet pins σ H s) : Inv X pins σ H s := ⟨ok, I.os, I.bare, I.base, I.loc, I.cell, I.free, I.freeC, I.pin, I.hok, I.len⟩
theorem matches_ok {M : Model} {C' : Addr} {l l' : List Value} {oe : Obj} {Q : Bool → Shared → Prop} (hK : X.K.In s.heap) (c : XMr X.K C l) (c' : XMr X.K C' l') (he : s.heap.get? x = some oe) (hcl : oe.cls = .ref C) (hb : l'.contains (.type "BaseException") = true)
    (hq : Q ((Value.ref C :: l).contains (.ref C')) s) : wpAny M A (excMatches (.ref x) (.ref C')) Q E s := by
  obtain ⟨nm, q, N, bs, sn, sub, ab, col, dd, k0, k1, k2, k3, k5, lk⟩ := c
  obtain ⟨nm', q', N', bs', sn', sub', ab', col', dd', k0', k1', k2', k3', k5', lk'⟩ := c'
  have hC := hK _ _ lk
  have hC' := hK _ _ lk'
  obtain ⟨hp, g, d, tk, os⟩ := s
  have hcB : (Value.ref C' :: l').contains (.type "BaseException") = true := by rw [List.contains_cons, hb, Bool.or_true]
  have f := tc_notTuple
  unfold excMatches
  repeat (first | (with_reducible refine wpAny_loadPart_at he ?_; rw [hcl]) | with_reducible refine wpAny_loadPart_at hC' ?_ | (with_reducible refine wpAny_isSubtype_exc hC' ?_; rw [hcB]) | with_reducible refine wpAny_isSubtype_exc hC ?_ | wp_step)
  cases hbb : (Value.ref C :: l).contains (.ref C') <;> (rw [hbb] at hq; wp_walk; exact hq)
end
/-- what the except clauses ask -/
abbrev TH := Ends → St → Hp → Addr → Addr → Option Addr → Prop
def PH (X : Cx) (hs : List ExceptHandler) (t : TH) : Prop := ∀ (pins : List (Addr × Obj)) (s : Shared) (σ : St) (H : Hp) (D : Ends) (x C : Addr) (od : Option Addr) (T : Addr), Inv X pins σ H s → H x = some (.ext (ExcAt x C od)) → FpOk X pins H T → Ent x T s.heap → t D σ H x C od →
  wpAny (model X.prog X.w) X.A (handleBy (.ref x) X.env hs) (SP X pins D) X.xe s
def tHit (K : PySem.W.Frag) (C' : Addr) (i : Nat) (ts : TS) (tr : TH) : TH := fun D σ H x C od => ∃ l, XMr K C l ∧ ((Value.ref C :: l).contains (.ref C') = true → ts { nx := fun σ' H' => D.nx (σ'.set i none) H', rt := D.rt, bk := fun σ' H' => D.bk (σ'.set i none) H', ct := fun σ' H' => D.ct (σ'.set i none) H' } (σ.set i (some (.ref x))) H) ∧
  ((Value.ref C :: l).contains (.ref C') = false → tr D σ H x C od)
def tMiss : TH := fun _ _ _ _ _ _ => False
section
variable {X : Cx}
theorem ph_nil : PH X [] tMiss := fun _ _ _ _ _ _ _ _ _ _ _ _ _ h => h.elim
theorem ph_hit {cn n : Str} {p pos : Pos} {b₀ : Stmt} {suite : List Stmt} {rest : List ExceptHandler} {C' : Addr} {l' : List Value} {i : Nat} {ts : TS} {tr : TH} (hN : X.N.Nodup) (hi : X.N[i]? = some n) (hl : X.env.kindOf n = some .local) (hg : Gl X cn) (hm : X.mg cn = some (.ref C')) (c' : XMr X.K C' l') (hb : l'.contains (.type "BaseException") = true)
    (hs : ∀ x, PSs (X.hdl x) (b₀ :: suite) ts) (hr : PH X rest tr) (hdb : (cn == ("__debug__" : Str)) = false := by decide) : PH X (.ExceptHandler (some (.Name cn p)) (some n) (b₀ :: suite) pos :: rest) (tHit X.K C' i ts tr) := by
  intro pins s σ H D x C od T I hx hT he h
  obtain ⟨l, c, h1, h2⟩ := h
  obtain ⟨⟨vs, hxo⟩, _⟩ := (show ObjOk X.prog X.w H s.heap x (.ext (ExcAt x C od)) from I.hok x _ hx)
  refine wpAny_handleBy_cons (codeAny_handlers_test (ld_glob (X := X.hdl x) I.to hg hm (matches_ok (X := X) I.kIn c c' hxo rfl hb ?_) hdb)) (by intro q; cases q)
  cases hbb : (Value.ref C :: l).contains (.ref C') with
  | false => exact hr pins s σ H D x C od T I hx hT he (h2 hbb)
  | true =>
    refine codeAny_handlers_suite_as (flight_ok I hT he (by rw [hx]; simp) fun s1 I1 => store_ok (X := X.hdl x) (v := .ref x) I1.to hN hi (.inl hl) rfl (fun s2 I2 => ?_) (.inr hl))
    refine wpAny_mono (hs x pins s2 _ H _ I2 (h1 hbb)) (fun f s3 q => ?_) fun _ _ z => z.elim
    cases f with
    | next =>
      obtain ⟨σ', H', I', q⟩ := q
      exact goes_ok (I'.fro I.ok) hN hi hl fun s4 I4 => ⟨_, _, I4, q⟩
    | brk =>
      obtain ⟨σ', H', I', q⟩ := q
      exact goes_ok (I'.fro I.ok) hN hi hl fun s4 I4 => ⟨_, _, I4, q⟩
    | cont =>
      obtain ⟨σ', H', I', q⟩ := q
      exact goes_ok (I'.fro I.ok) hN hi hl fun s4 I4 => ⟨_, _, I4, q⟩
    | ret u =>
      obtain ⟨v, σ', H', I', r, q⟩ := q
      exact goes_ok (I'.fro I.ok) hN hi hl fun s4 I4 => ⟨v, _, _, I4, r, q⟩
end
/-- n = f(..) within a try -/
def tTryA (sp : Sp) (i : Nat) (ta : TA) (th : TH) : TS := fun D σ H => ta σ H fun vs H1 => sp vs H1 (fun v H2 => D.nx (σ.set i (some v)) H2) (fun xv od H2 => ∃ x C, xv = .ref x ∧ H2 x = some (.ext (ExcAt x C od)) ∧ th D σ H2 x C od)
section
variable {X : Cx} {k : Nat} {f : Addr} {fd : FuncData} {ps : List Str} {sp : Sp}
theorem run_catch {pins : List (Addr × Obj)} {σ : St} {H : Hp} {s : Shared} {us : List Value} {vs : List V} {Q : VK} {th : TH} {D : Ends} {h0 : ExceptHandler} {hs : List ExceptHandler} (F : FnOk X.prog X.w X.K X.mg X.base (CXe X.prog X.w) k f fd ps sp) (hr : Room k X.A) (hb : Binds X.K fd ps []) (hst : X.stack = X.env :: X.outer) (hfr : X.env.frame = some X.env.locals) (hh : PH X (h0 :: hs) th)
    (I : Inv X pins σ H s) (r : Vals vs us) (h : sp vs H Q (fun xv od H2 => ∃ x C, xv = .ref x ∧ H2 x = some (.ext (ExcAt x C od)) ∧ th D σ H2 x C od)) :
    wpAny (model X.prog X.w) X.A (call (.ref f) us) (EP X pins σ Q) (fun e s₁ => wpAny (model X.prog X.w) X.A (noteFrame e X.env) (fun _ s₂ => wpAny (model X.prog X.w) X.A (setFlight e none) (fun _ s₃ => wpAny (model X.prog X.w) X.A (handleBy e X.env (h0 :: hs)) (SP X pins D) X.xe s₃) X.xe s₂) X.xe s₁) s := by
  have hl : us.length = ps.length := by rw [← r.length]; exact F.len _ _ _ _ h
  have hb2 := hb s us I.kIn (by rw [List.append_nil]; exact hl)
  rw [List.append_nil] at hb2
  refine wpAny_call (codeAny_mono (F.run X.A X.stack s H ⟨us, []⟩ us vs Q _ hr I.env0 hb2 r h) fun r s' hq => ?_)
  cases r with
  | error e =>
    obtain ⟨x, C, od, H', rfl, os, bare, un, hok, hx, hn, ht, hE⟩ := hq
    have I' : Inv X pins σ H' s' := I.call' (ch := []) os un hok bare (fun b z => absurd z (by simp))
    obtain ⟨x', C', ex, hx', hE⟩ := hE
    cases ex
    exact catch_ok I' hst hfr hx' ht (fun b hb hnb => I.fpOk hb hnb) fun s2 T I2 hT he => hh pins s2 σ H' D x C' od T I2 hx' hT he hE
  | ok fl =>
    cases fl with
    | ret u => exact I.after hq
    | next => exact False.elim hq
    | brk => exact False.elim hq
    | cont => exact False.elim hq
theorem ps_tryA {x n : Str} {np p' cpos apos pos : Pos} {e : Expr} {es : List Expr} {ta : TA} {i : Nat} {th : TH} {h0 : ExceptHandler} {hs : List ExceptHandler} (F : FnOk X.prog X.w X.K X.mg X.base (CXe X.prog X.w) k f fd ps sp) (hr : Room k X.A) (hb : Binds X.K fd ps []) (hst : X.stack = X.env :: X.outer) (hfr : X.env.frame = some X.env.locals)
    (hN : X.N.Nodup) (hi : X.N[i]? = some n) (hl : X.env.scope.names.lookup n = some .local) (hg : Gl X x) (hm : X.mg x = some (.ref f)) (hk : PySem.W.keepIn X.K (.ref f) = true) (ha : PA X.quiet (e :: es) ta) (hh : PH X (h0 :: hs) th)
    (hsw : swapsWith (.Call (.Name x np) (e :: es) [] cpos) (some (.Name n p')) apos.line X.env = pure false := by rfl) (hdb : (x == ("__debug__" : Str)) = false := by decide) (he : starEach (e :: es) X.env = (false, eval e X.env) :: starEach es X.env := by rfl)
    (hpl : (backTo cpos (starEach es X.env)).any (·.1) = false := by rfl) :
    PS X (.Try [.Assign [.Name n p'] (.Call (.Name x np) (e :: es) [] cpos) apos] (h0 :: hs) [] [] pos) (tTryA sp i ta th) := by
  intro pins s σ H D I h
  rw [arm_exec_Try]
  refine wpAny_bind (wpAny_standAt (wpAny_tryStmt_except (wpAny_execs_cons (wpAny_Assign_Name ?_ hsw))))
  refine wpAny_Call_Name_kw (ld_glob I hg hm ?_ hdb)
  refine PySem.W.callWith_K (h₀ := X.base) I.ok.mod.kin hk (wpAny_mono (ha cpos pins s σ H _ I.toQ h) (fun us s1 ⟨vs, H1, I1, r, q⟩ => ⟨I1.kIn, ?_⟩) fun _ _ z => z.elim) he hpl
  have I1 := I1.froQ I.ok
  refine thn (run_catch F hr hb hst hfr hh I1 r q) fun u s2 ⟨v, H2, I2, rv, q2⟩ => ?_
  refine store_ok I2 hN hi (.inl hl) rv (fun s3 I3 => ?_) (.inr hl)
  exact wpAny_execs_nil (wpAny_execs_nil ⟨_, _, I3, q2⟩)
end
end L2

set_option Elab.async false
set_option linter.all false
set_option maxRecDepth 100000
set_option maxHeartbeats 4000000
namespace L2
open PySem PySem.Spec PyProof.Rows
theorem kind_bga : builtinKind "BaseException.__getattribute__" = some .slot := by decide +kernel
theorem split_bga : splitId "BaseException.__getattribute__" = some ("BaseException", "__getattribute__") := by decide +kernel
section
variable {prog : Program} {w : World} {A : Around} {E : Value → Shared → Prop} {h : Heap} {g : Array GenState} {d : Drawn} {t : Nat} {os : OsState}
variable {nm q : Str} {C N x : Addr} {l bs : List Value} {sn : List Str} {sub : List Value} {ab : Bool} {col : Option Bool} {dd : Option Addr} {k0 k1 k2 k3 k5 : Option Value} {K : PySem.W.Frag} {o : Obj}
theorem check_G {M : Model} {nameV : Value} {Q : Unit → Shared → Prop} (hC : h.get? C = some (excClassObj nm q C N bs l true sn sub ab col dd k0 k1 k2 k3 k5 "ValueError.__new__")) (hl : l.contains (.type "BaseException") = true) (hx : h.get? x = some o) (hc : o.cls = .ref C) (hq : Q () ⟨h, g, d, t, os⟩) :
    wpAny M A (checkBuiltinCall "BaseException.__getattribute__" ⟨[.ref x, nameV], []⟩) Q E ⟨h, g, d, t, os⟩ := by
  have hcB : (Value.ref C :: l).contains (.type "BaseException") = true := by rw [List.contains_cons, hl, Bool.or_true]
  have ha := F.args_bexc_ga (.ref x) nameV
  simp only [checkBuiltinCall, kind_bga, split_bga]
  refine wpAny_bind ?_
  unfold isInstance
  repeat (first | (with_reducible refine wpAny_loadPart_at hx ?_; rw [hc]) | (with_reducible refine wpAny_isSubtype_exc hC ?_; rw [hcB]) | wp_step)
  exact hq
/-- e.f -/
theorem load_entryX {mA : Str → Option Value} {name : Str} {v : Value} {tk : Tok} {Q : Fin → Shared → Prop} (KX : K.In h) (hC : h.get? C = some (excClassObj nm q C N bs l true sn sub ab col dd k0 k1 k2 k3 k5 "ValueError.__new__"))
    (hna : PySem.W.findIn K (.ref C) name = some none) (I : h.Inst x C mA) (hv : mA name = some v) (hq : Q (.done (.ret v)) ⟨h, g, d, t, os⟩) :
    wpAny (model prog w) A (Builtin.«object.__getattribute__» ⟨[.ref x, .str name tk], []⟩) Q E ⟨h, g, d, t, os⟩ := by
  obtain ⟨o, hx, hc, hnc, hd⟩ := I
  have lk : ∀ {n : Str} {r : Option Value} {P : Option Value → Shared → Prop} {A' : Around} {E' : Value → Shared → Prop} {tk : Nat}, PySem.W.findIn K (.ref C) n = some r → P r ⟨h, g, d, tk, os⟩ → wpAny (model prog w) A' (typeLookup (.ref C) n) P E' ⟨h, g, d, tk, os⟩ := fun e hp => PySem.W.looks_findIn KX e _ _ _ _ (fun _ _ z => z) hp
  rcases hd with ⟨_, hmA⟩ | ⟨dx, hdx, hne, hns⟩
  · rw [hmA name] at hv; cases hv
  unfold Builtin.«object.__getattribute__»
  repeat (first | (with_reducible refine wpAny_loadPart_at hx ?_; rw [hc]) | (with_reducible refine lk hna ?_) | wp_step)
  split
  · rename_i c hcd
    exact absurd hcd (hnc c)
  unfold instanceDict
  repeat (first | (with_reducible refine wpAny_loadPart_at hx ?_; rw [hc]) | with_reducible refine wpAny_loadPart_at hC ?_ | wp_step)
  rw [hdx]
  repeat (first | (with_reducible refine wpAny_nsGet hns.ns ?_; rw [hv]) | wp_step)
  exact hq
theorem load_attrX {mA : Str → Option Value} {name : Str} {v : Value} {expr : Bool} {Q : Value → Shared → Prop} (KX : K.In h) (hC : h.get? C = some (excClassObj nm q C N bs l true sn sub ab col dd k0 k1 k2 k3 k5 "ValueError.__new__")) (hl : l.contains (.type "BaseException") = true)
    (hga : PySem.W.findIn K (.ref C) "__getattribute__" = some (some (.builtin "BaseException.__getattribute__"))) (hgt : PySem.W.findIn K (.ref C) "__getattr__" = some none) (hna : PySem.W.findIn K (.ref C) name = some none) (I : h.Inst x C mA) (hv : mA name = some v) (hh : handedOut v = pure v) (hq : Q v ⟨h, g, d, t + 1, os⟩) :
    wpAny (model prog w) A (getAttr (.ref x) name expr) Q E ⟨h, g, d, t, os⟩ := by
  obtain ⟨o, hx, hc, _⟩ := id I
  have lk : ∀ {n : Str} {r : Option Value} {P : Option Value → Shared → Prop} {A' : Around} {E' : Value → Shared → Prop} {tk : Nat}, PySem.W.findIn K (.ref C) n = some r → P r ⟨h, g, d, tk, os⟩ → wpAny (model prog w) A' (typeLookup (.ref C) n) P E' ⟨h, g, d, tk, os⟩ := fun e hp => PySem.W.looks_findIn KX e _ _ _ _ (fun _ _ z => z) hp
  have FX := F.excAttr_ValueError
  have f3 := FX.ga.bind (.ref x)
  have hx0 : (expr && onTheHeap (Value.builtin "BaseException.__getattribute__")) = false := by cases expr <;> rfl
  unfold getAttr getAttrBy
  repeat (any_goals (first | assumption | (with_reducible refine wpAny_loadPart_at hx ?_; rw [hc]) | (with_reducible refine lk hga ?_) | (refine lk (n := "__getattr__") hgt ?_) | wp_step))
  refine codeAny_call_builtin FX.ga.plain F.entry_bexc_ga (check_G hC hl hx hc (load_entryX KX hC hna I hv ?_))
  repeat (any_goals (first | assumption | wp_step))
/-- e.__class__ -/
theorem class_getX {R : Result → Shared → Prop} (hC : h.get? C = some (excClassObj nm q C N bs l true sn sub ab col dd k0 k1 k2 k3 k5 "ValueError.__new__")) (hl : l.contains (.type "object") = true) (hx : h.get? x = some o) (hc : o.cls = .ref C) (hq : R (.ok (.ret (.ref C))) ⟨h, g, d, t, os⟩) :
    codeAny (model prog w) A (.call (.builtin "getset_descriptor.__get__") ⟨[.builtin "object.__class__", .ref x, .ref C], []⟩) R ⟨h, g, d, t, os⟩ := by
  have hcB : (Value.ref C :: l).contains (.type "object") = true := by rw [List.contains_cons, hl, Bool.or_true]
  have hT5 : (⟨h, g, d, t, os⟩ : Shared).TypeIs (.builtin "object.__class__") "getset_descriptor" := F.typeOf_object_class
  have f8 := F.owner_object_class
  refine codeAny_call_builtin F.slot_gs_get.plain F.entry_gs_get (F.slot_gs_get.check _ _ _ _ _ _ _ _ hT5 (F.args_gs_get _ _ _) ?_)
  repeat (any_goals (first | assumption | (with_reducible refine wpAny_loadPart_at hx ?_; rw [hc]) | (rw [f8]; with_reducible refine wpAny_isSubtype_exc hC ?_; rw [hcB]) | wp_step))
  refine ⟨Code.quiet_builtin _ (by decide +kernel), codeAny_builtin F.entry_object_class ?_⟩
  repeat (any_goals (first | assumption | (with_reducible refine wpAny_loadPart_at hx ?_; rw [hc]) | wp_step))
theorem class_entryX {tk : Tok} {Q : Fin → Shared → Prop} (KX : K.In h) (hC : h.get? C = some (excClassObj nm q C N bs l true sn sub ab col dd k0 k1 k2 k3 k5 "ValueError.__new__")) (hl : l.contains (.type "object") = true)
    (hcl : PySem.W.findIn K (.ref C) "__class__" = some (some (.builtin "object.__class__"))) (hx : h.get? x = some o) (hc : o.cls = .ref C) (hq : Q (.done (.ret (.ref C))) ⟨h, g, d, t, os⟩) :
    wpAny (model prog w) A (Builtin.«object.__getattribute__» ⟨[.ref x, .str "__class__" tk], []⟩) Q E ⟨h, g, d, t, os⟩ := by
  have lk : ∀ {n : Str} {r : Option Value} {P : Option Value → Shared → Prop} {A' : Around} {E' : Value → Shared → Prop} {tk : Nat}, PySem.W.findIn K (.ref C) n = some r → P r ⟨h, g, d, tk, os⟩ → wpAny (model prog w) A' (typeLookup (.ref C) n) P E' ⟨h, g, d, tk, os⟩ := fun e hp => PySem.W.looks_findIn KX e _ _ _ _ (fun _ _ z => z) hp
  have hT5 : (⟨h, g, d, t, os⟩ : Shared).TypeIs (.builtin "object.__class__") "getset_descriptor" := F.typeOf_object_class
  have f5 := F.typeOf_object_class
  have f6 := F.slot_gs_get.lookup
  have f7 := F.slot_gs_set.lookup
  unfold Builtin.«object.__getattribute__»
  repeat (any_goals (first | assumption | (with_reducible refine wpAny_loadPart_at hx ?_; rw [hc]) | (with_reducible refine lk hcl ?_) | wp_step))
  refine class_getX hC hl hx hc ?_
  repeat (any_goals (first | assumption | wp_step))
theorem class_attrX {Q : Option Value → Shared → Prop} (KX : K.In h) (hC : h.get? C = some (excClassObj nm q C N bs l true sn sub ab col dd k0 k1 k2 k3 k5 "ValueError.__new__")) (hlb : l.contains (.type "BaseException") = true) (hl : l.contains (.type "object") = true)
    (hga : PySem.W.findIn K (.ref C) "__getattribute__" = some (some (.builtin "BaseException.__getattribute__"))) (hgt : PySem.W.findIn K (.ref C) "__getattr__" = some none) (hcl : PySem.W.findIn K (.ref C) "__class__" = some (some (.builtin "object.__class__")))
    (hx : h.get? x = some o) (hc : o.cls = .ref C) (hq : Q (some (.ref C)) ⟨h, g, d, t + 1, os⟩) : wpAny (model prog w) A (getAttr? (.ref x) "__class__") Q E ⟨h, g, d, t, os⟩ := by
  have lk : ∀ {n : Str} {r : Option Value} {P : Option Value → Shared → Prop} {A' : Around} {E' : Value → Shared → Prop} {tk : Nat}, PySem.W.findIn K (.ref C) n = some r → P r ⟨h, g, d, tk, os⟩ → wpAny (model prog w) A' (typeLookup (.ref C) n) P E' ⟨h, g, d, tk, os⟩ := fun e hp => PySem.W.looks_findIn KX e _ _ _ _ (fun _ _ z => z) hp
  have FX := F.excAttr_ValueError
  have f3 := FX.ga.bind (.ref x)
  unfold getAttr? getAttrBy? getAttrBy
  repeat (any_goals (first | assumption | (with_reducible refine wpAny_loadPart_at hx ?_; rw [hc]) | (with_reducible refine lk hga ?_) | (refine lk (n := "__getattr__") hgt ?_) | wp_step))
  refine codeAny_call_builtin FX.ga.plain F.entry_bexc_ga (check_G hC hlb hx hc (class_entryX KX hC hl hcl hx hc ?_))
  repeat (any_goals (first | assumption | wp_step))
end
end L2

set_option Elab.async false
set_option linter.all false
set_option maxRecDepth 100000
set_option maxHeartbeats 4000000
namespace L2
open PySem PySem.Spec PyProof.Rows
/-- what a class of exceptions looks like to a reader -/
structure XGet (K : PySem.W.Frag) (C : Addr) (l : List Value) : Prop where
  mr : XMr K C l
  be : l.contains (.type "BaseException") = true
  ob : l.contains (.type "object") = true
  ga : PySem.W.findIn K (.ref C) "__getattribute__" = some (some (.builtin "BaseException.__getattribute__"))
  gt : PySem.W.findIn K (.ref C) "__getattr__" = some none
  cl : PySem.W.findIn K (.ref C) "__class__" = some (some (.builtin "object.__class__"))
section
variable {X : Cx} {pins : List (Addr × Obj)} {σ : St} {H : Hp} {s : Shared} {A : Around} {E : Value → Shared → Prop} {x C dx : Addr} {l : List Value} {f : Str}
theorem xget_ok {b : Bool} {y : V} {fs : List (Str × V)} {Q : Value → Shared → Prop} (I : Inv X pins σ H s) (c : XGet X.K C l) (n : NoAttr X.K C f) (e : H x = some (.ext (ExcAt x C (some dx)))) (ed : H dx = some (.ext (XdAt dx fs))) (dxx : dx ≠ x) (lk : fs.lookup f = some y)
    (h : ∀ u s', Inv X pins σ H s' → RelV y u → Q u s') : wpAny (model X.prog X.w) A (getAttr (.ref x) f b) Q E s := by
  obtain ⟨nm, q, N, bs, sn, sub, ab, col, dd, k0, k1, k2, k3, k5, hl⟩ := c.mr
  have hC := I.kIn _ _ hl
  obtain ⟨⟨vs, hx⟩, _⟩ := (show ObjOk X.prog X.w H s.heap x (.ext (ExcAt x C (some dx))) from I.hok x _ e)
  obtain ⟨⟨mA, ns, rel, wi⟩, _⟩ := (show ObjOk X.prog X.w H s.heap dx (.ext (XdAt dx fs)) from I.hok dx _ ed)
  obtain ⟨u, hu, ru⟩ := RelO.some_of (v := y) (o := mA f) (by rw [← lk]; exact rel f)
  have In : s.heap.Inst x C mA := ⟨_, hx, rfl, (fun c z => by cases z), .inr ⟨dx, rfl, dxx, ns⟩⟩
  have hK := I.kIn
  have I' : Inv X pins σ H { s with toks := s.toks + 1 } := I.tok _
  obtain ⟨hp, g, d, tk, os⟩ := s
  exact load_attrX hK hC c.be c.ga c.gt n In hu (PySem.W.handedOut_of (handed_of ru)) (h u _ I' ru)
theorem kitX (c : XGet X.K C l) : PySem.W.KitX X.K (.ref x) (.ref C) (fun h => ∃ oe, h.get? x = some oe ∧ oe.cls = .ref C) where
  ty := fun M h _ ⟨oe, h1, h2⟩ => h2 ▸ (PySem.W.Looks.ld h1).andThen .now
  it := fun _ _ K _ => by
    obtain ⟨nm, q, N, bs, sn, sub, ab, col, dd, k0, k1, k2, k3, k5, hl⟩ := c.mr
    intro A' Q' E' s' k q
    unfold isType loadHead
    exact wpAny_bind (wpAny_loadPart (k _ _ (K _ _ hl)) (wpAny_pure q))
  ne := fun h tp dd its n sl K htp => by
    obtain ⟨nm, q, N, bs, sn, sub, ab, col, dd, k0, k1, k2, k3, k5, hl⟩ := c.mr
    refine Bool.eq_false_iff.mpr fun q => ?_
    have e : C = tp := Value.ref.inj (beq_iff_eq.mp q)
    subst e
    have z := Option.some.inj ((K _ _ hl).symm.trans htp)
    have z2 := congrArg Obj.data z
    cases z2
  ca := fun {prog w A E Q s} K p k => by
    obtain ⟨nm, q, N, bs, sn, sub, ab, col, dd, k0, k1, k2, k3, k5, hl⟩ := c.mr
    obtain ⟨oe, h1, h2⟩ := p
    have hC := K _ _ hl
    obtain ⟨hp, g, d, tk, os⟩ := s
    exact class_attrX K hC c.be c.ob c.ga c.gt c.cl h1 h2 k
end
/-- e.f -/
def tXget (K : PySem.W.Frag) (ta : TE) (f : Str) : TE := fun σ H Q => ta σ H fun v H1 => ∃ x C l dx fs y, v = .ref x ∧ XGet K C l ∧ NoAttr K C f ∧ H1 x = some (.ext (ExcAt x C (some dx))) ∧ H1 dx = some (.ext (XdAt dx fs)) ∧ dx ≠ x ∧ fs.lookup f = some y ∧ Q y H1
section
variable {X : Cx} {e : Expr} {f : Str} {pos : Pos} {ta : TE}
theorem pe_xget (he : PE X e ta) (hb : attributeBase e f X.env (eval e X.env) = eval e X.env) : PE X (.Attribute e f pos) (tXget X.K ta f) := by
  intro pins s σ H Q I h
  refine attr_of hb (thn (he pins s σ H _ I h) fun u s1 ⟨v, H1, I1, rx, x, C, l, dx, fs, y, ex, c, n, e1, e2, e3, lk, q⟩ => ?_)
  subst ex
  obtain rfl : u = Value.ref x := rx
  exact xget_ok I1 c n e1 e2 e3 lk fun u' s2 I2 ru => ⟨y, H1, I2, ru, q⟩
/-- isinstance(e, C') -/
theorem call_isiX : CallR X (.builtin "isinstance") (fun xs H Q => ∃ x C od l C' b, xs = [.ref x, .ref C'] ∧ XGet X.K C l ∧ H x = some (.ext (ExcAt x C od)) ∧ PySem.W.kitOne X.K (.ref C) (.ref C') = some b ∧ Q (.bl b) H) := by
  rintro pins s σ H xs us Q I r ⟨x, C, od, l, C', b, rfl, c, e, hk, q⟩
  obtain ⟨u, v, rfl, ru, rv⟩ := vals2 r
  cases rv
  cases ru
  obtain ⟨⟨vs, hx⟩, _⟩ := (show ObjOk X.prog X.w H s.heap x (.ext (ExcAt x C od)) from I.hok x _ e)
  exact PySem.W.kia_one (kitX c) I.kIn ⟨_, hx, rfl⟩ hk (fun z => nomatch z) fun tk => ⟨.bl _, H, I.tok tk, rfl, q⟩
theorem call_isiXT : CallR X (.builtin "isinstance") (fun xs H Q => ∃ x C od l T b, xs = [.ref x, .ty T] ∧ XGet X.K C l ∧ H x = some (.ext (ExcAt x C od)) ∧ PySem.W.kitOne X.K (.ref C) (.type T) = some b ∧ Q (.bl b) H) := by
  rintro pins s σ H xs us Q I r ⟨x, C, od, l, C', b, rfl, c, e, hk, q⟩
  obtain ⟨u, v, rfl, ru, rv⟩ := vals2 r
  cases rv
  cases ru
  obtain ⟨⟨vs, hx⟩, _⟩ := (show ObjOk X.prog X.w H s.heap x (.ext (ExcAt x C od)) from I.hok x _ e)
  exact PySem.W.kia_one (kitX c) I.kIn ⟨_, hx, rfl⟩ hk (fun z => nomatch z) fun tk => ⟨.bl _, H, I.tok tk, rfl, q⟩
/-- .. with the part named, for an except suite -/
theorem pe_xgetK {K : PySem.W.Frag} (hK : X.K = K) (he : PE X e ta) (hb : attributeBase e f X.env (eval e X.env) = eval e X.env) : PE X (.Attribute e f pos) (tXget K ta f) := by subst hK; exact pe_xget he hb
theorem call_isiXK {K : PySem.W.Frag} (hK : X.K = K) : CallR X (.builtin "isinstance") (fun xs H Q => ∃ x C od l C' b, xs = [.ref x, .ref C'] ∧ XGet K C l ∧ H x = some (.ext (ExcAt x C od)) ∧ PySem.W.kitOne K (.ref C) (.ref C') = some b ∧ Q (.bl b) H) := by subst hK; exact call_isiX
theorem call_isiXTK {K : PySem.W.Frag} (hK : X.K = K) : CallR X (.builtin "isinstance") (fun xs H Q => ∃ x C od l T b, xs = [.ref x, .ty T] ∧ XGet K C l ∧ H x = some (.ext (ExcAt x C od)) ∧ PySem.W.kitOne K (.ref C) (.type T) = some b ∧ Q (.bl b) H) := by subst hK; exact call_isiXT
end
end L2

set_option Elab.async false
set_option linter.all false
set_option maxRecDepth 100000
set_option maxHeartbeats 4000000
namespace L2
open PySem PySem.Spec PyProof.Rows
/-- a class of exceptions of the program, with an __init__ of its own -/
structure XTop (K : PySem.W.Frag) (mg : Str → Option Value) (nm qual : Str) (st : Stmt) (ps : List Str) (C D fI : Addr) (fd : FuncData) : Prop where
  cls : XCls K C D fI
  get : XGet K C (.ref D :: bmV)
  mg : mg nm = some (.ref C)
  fn : Fun K "__init__" qual st fI fd
  bd : Binds K fd ps []
theorem tail_mk {K : PySem.W.Frag} {h : Heap} {D : Addr} {c0 c1 : Value} {dd d1 : Option Addr} {cd : ClassData} {sl s1 : Array (Option Value)} {es : Array DictEntry} {n : Nat} (lD : K.lookup D = some ⟨c0, dd, .cls cd, sl⟩) (lN : K.lookup cd.ns = some ⟨c1, d1, .dict es n, s1⟩)
    (hes : (es.all fun e => match e.key with | .str _ _ => true | _ => false) = true) (iD : PySem.W.nsIn K cd.ns "__init__" = some none) (X : K.In h) : OwnTail h bmV (.ref D :: bmV) := by
  have ok : PySem.W.nsOkIn K cd.ns = true := by unfold PySem.W.nsOkIn; rw [lN]; exact hes
  exact .own (X _ _ lD) (.of_isNs (PySem.W.isNs_of_in X ok)) (PySem.W.nsMap_none_of_in X ok iD) .base
theorem xtop_mk {K : PySem.W.Frag} {h : Heap} {mg : Str → Option Value} {nm qual : Str} {st : Stmt} {ps : List Str} {C D fI : Addr} {oC : Obj} {c0 c1 : Value} {dd d1 : Option Addr} {cd : ClassData} {sl s1 : Array (Option Value)} {es : Array DictEntry} {n : Nat} {oc : Value} {od an : Option Addr} {osl : Array (Option Value)} {kV doc pm cdv ct : Value}
    (X : K.In h) (G : h.Ns mainGlobals mg) (a : PySem.W.nsIn K mainGlobals nm = some (some (.ref C))) (lC : K.lookup C = some oC)
    (eC : ∃ nm q N bs sn sub ab col dd k0 k1 k2 k3 k5, oC = excClassObj nm q C N bs (.ref D :: bmV) true sn sub ab col dd k0 k1 k2 k3 k5 "ValueError.__new__")
    (lD : K.lookup D = some ⟨c0, dd, .cls cd, sl⟩) (lN : K.lookup cd.ns = some ⟨c1, d1, .dict es n, s1⟩) (hes : (es.all fun e => match e.key with | .str _ _ => true | _ => false) = true) (iD : PySem.W.nsIn K cd.ns "__init__" = some none)
    (ini : PySem.W.findIn K (.ref C) "__init__" = some (some (.ref fI))) (sa : PySem.W.findIn K (.ref C) "__setattr__" = some (some (.builtin "object.__setattr__"))) (fn : PySem.W.isFn K (.ref fI) = true) (kp : PySem.W.keepIn K (.ref C) = true)
    (ga : PySem.W.findIn K (.ref C) "__getattribute__" = some (some (.builtin "BaseException.__getattribute__"))) (gt : PySem.W.findIn K (.ref C) "__getattr__" = some none) (cl : PySem.W.findIn K (.ref C) "__class__" = some (some (.builtin "object.__class__")))
    (l : K.lookup fI = some ⟨oc, od, .func (PySem.W.fnOf "__init__" qual (defArgs st) (defBody st) (defScope st) .none kV doc pm an cdv ct), osl⟩) (c : PySem.W.codeIn K cdv qual = true) (k : PySem.W.keepIn K (.ref fI) = true)
    (hb : ∀ (kV doc pm : Value) (an : Option Addr) (cdv ct : Value) (us : List Value), us.length = ps.length → bindArgs (PySem.W.fnOf "__init__" qual (defArgs st) (defBody st) (defScope st) .none kV doc pm an cdv ct) ⟨us, []⟩ = pure (ps.zip us)) :
    XTop K mg nm qual st ps C D fI (PySem.W.fnOf "__init__" qual (defArgs st) (defBody st) (defScope st) .none kV doc pm an cdv ct) := by
  obtain ⟨nm', q, N, bs, sn, sub, ab, col, dd', k0, k1, k2, k3, k5, rfl⟩ := eC
  have mr : XMr K C (.ref D :: bmV) := ⟨nm', q, N, bs, sn, sub, ab, col, dd', k0, k1, k2, k3, k5, lC⟩
  exact ⟨⟨mr, fun h X => tail_mk lD lN hes iD X, ini, sa, fn, kp⟩, ⟨mr, by rw [List.contains_cons, show bmV.contains (.type "BaseException") = true by decide +kernel, Bool.or_true], by rw [List.contains_cons, show bmV.contains (.type "object") = true by decide +kernel, Bool.or_true], ga, gt, cl⟩, PySem.W.mg_of X G a, fun_mk (st := st) l c k, (fun_mk (st := st) l c k).binds hb⟩
end L2

set_option Elab.async false
set_option linter.all false
set_option maxRecDepth 100000
set_option maxHeartbeats 4000000
namespace L2
open PySem PySem.Spec PyProof.Rows PySem.SeqAt
open AutoSeq1 (wpAny_loadPart')
section
variable {M : Model} {A : Around} {E : Value → Shared → Prop} {s : Shared}
theorem rc_ne_decline {a b : Value} {Ta Tb ida idb : String} {k : Bool} {Q : Value → Shared → Prop} (ha : s.TypeIs a Ta) (hb : s.TypeIs b Tb)
    (hne : (Value.type Ta != Value.type Tb) = true) (hsub : isSubtype (.type Tb) (.type Ta) = pure false) (h1 : Slot Ta (cmpInfo .NotEq).2.1 ida) (h2 : Slot Tb (cmpInfo .NotEq).2.2 idb)
    (hc1 : ∀ Q' : Value → Shared → Prop, Q' .notImplemented s → wpAny M A (call (.builtin ida) [a, b]) Q' E s)
    (hc2 : ∀ Q' : Value → Shared → Prop, Q' .notImplemented s → wpAny M A (call (.builtin idb) [b, a]) Q' E s)
    (hk : ∀ Q' : Bool → Shared → Prop, Q' k s → wpAny M A (isSame a b) Q' E s)
    (hr : [a, b].any Value.onHeap = false ∨ A.units < cLine) (h : Q (.bool (!k)) s) : wpAny M A (richCompare .NotEq a b) Q E s := by
  rcases hi : cmpInfo CmpOp.NotEq with ⟨sym, f, r⟩
  rw [hi] at h1 h2
  simp only [richCompare, hi, ha.oneThing_none]
  try with_reducible refine wpAny_holding ?_
  refine wpAny_bind (wpAny_cRoomFor_or hr ?_)
  refine wpAny_bind (wpAny_typeOf ha (wpAny_bind (wpAny_typeOf hb ?_)))
  simp only [hne, if_true]
  refine wpAny_bind (wpAny_of_eq hsub ?_)
  simp only [Bool.false_eq_true, if_false, Bool.not_false, if_true]
  refine wpAny_bind (m := tryCompare a _ b) (wpAny_tryCompare_declines ha h1 (hc1 _ ⟨rfl, ?_⟩))
  refine wpAny_bind (m := tryCompare b _ a) (wpAny_tryCompare_declines hb h2 (hc2 _ ⟨rfl, ?_⟩))
  exact wpAny_bind (wpAny_rule (wpAny_bind (hk _ (wpAny_pure h))))
theorem dict_ne_declines_int (l : Addr) (es : Array DictEntry) (n : Nat) (dd : Option Addr) (sl : Array (Option Value)) (b : Int) (u : Tok) :
    Meets (Builtin.«dict.__ne__» ⟨[.ref l, .int b u], []⟩) (fun _ R s => s.heap.get? l = some { cls := .type "dict", dict := dd, data := .dict es n, slots := sl } ∧ R (.ok (.ret .notImplemented)) s) :=
  .of_wp fun prog w A R s h => by obtain ⟨hp, g, d, tk, os⟩ := s; obtain ⟨hl, h⟩ := h; have f1 := PySem.F.sub_int_dict; wp_walk using wpAny_loadPart' hl; exact ⟨_, rfl, h⟩
theorem int_ne_declines_dict (b : Int) (u : Tok) (l : Addr) (es : Array DictEntry) (n : Nat) (dd : Option Addr) (sl : Array (Option Value)) :
    Meets (Builtin.«int.__ne__» ⟨[.int b u, .ref l], []⟩) (fun _ R s => s.heap.get? l = some { cls := .type "dict", dict := dd, data := .dict es n, slots := sl } ∧ R (.ok (.ret .notImplemented)) s) :=
  .of_wp fun prog w A R s h => by obtain ⟨hp, g, d, tk, os⟩ := s; obtain ⟨hl, h⟩ := h; wp_walk using wpAny_loadPart' hl, wpAny_load hl; exact ⟨_, rfl, h⟩
theorem ne_dict_int {prog : Program} {w : World} {l : Addr} {o : Obj} {es : Array DictEntry} {n : Nat} {b : Int} {u : Tok} {Q : Value → Shared → Prop} (ho : s.heap.get? l = some o) (hc : o.cls = .type "dict") (hd : o.data = .dict es n) (hu : A.units < cLine) (h : Q (.bool true) s) :
    wpAny (model prog w) A (compareOp .NotEq (.ref l) (.int b u)) Q E s := by
  obtain ⟨cls, dd, data, sl⟩ := o
  simp only at hc hd
  subst hc hd
  show wpAny _ _ (richCompare .NotEq _ _) _ _ _
  exact rc_ne_decline (k := false) ⟨_, ho, rfl⟩ (typeIs_int s b u) (by decide) PySem.F.sub_int_dict PySem.F.slot_dict_ne PySem.F.slot_int_ne_refl
    (fun _ hq => call_meets PySem.F.slot_dict_ne ⟨_, ho, rfl⟩ PySem.F.entry_dict_ne (PySem.F.args_dict_ne_2 _ _) (dict_ne_declines_int l es n dd sl b u) ⟨ho, hq⟩)
    (fun _ hq => call_meets PySem.F.slot_int_ne_refl (typeIs_int s b u) PySem.F.entry_int_ne (PySem.F.args_int_ne_2 _ _) (int_ne_declines_dict b u l es n dd sl) ⟨ho, hq⟩)
    (fun _ hq => wpAny_of_eq (rfl : isSame (.ref l) (.int b u) = pure false) hq) (.inr hu) h
end
/-- whether data is another thing than a whole number -/
def neI (d : D) (n : Int) : Bool := match d with
  | .int i => !(i == n)
  | .bl b => !((if b then 1 else 0) == n)
  | _ => true
section
variable {X : Cx}
theorem op_neI (hu : X.A.units < cLine) : OpR X (compareOp .NotEq) (fun x y H Q => ∃ d n, y = .int n ∧ Rep X.K H x d ∧ (∀ z, d ≠ .str z) ∧ Q (.bl (neI d n)) H) := by
  rintro pins s σ H x y v u Q I rx ry ⟨d, n, rfl, r, hs, q⟩
  obtain ⟨t', rfl⟩ := ry
  cases r with
  | non => cases rx; exact PySem.EqNone.ne_none_int (fin_bl I q (by simp [neI]))
  | bl b => cases rx; exact PySem.EqBoolInt.ne_bool_int (fin_bl I q rfl)
  | int i => obtain ⟨t, rfl⟩ := rx; exact PySem.EqBoolInt.of_rcne (SeqAt.RcNeAt.int_int i t n t') (fin_bl I q rfl)
  | str z => exact absurd rfl (hs z)
  | lst hq _ =>
    cases rx
    obtain ⟨its, _, p, _⟩ := I.list hq
    exact SeqAt.RcNeAt.list_int n t' p.isList hu _ _ _ _ (fin_bl I q rfl)
  | tup hq _ =>
    cases rx
    obtain ⟨its, _, p, _⟩ := I.tuple hq
    exact SeqAt.RcNeAt.tuple_int n t' p hu _ _ _ _ (fin_bl I q rfl)
  | dct hq _ =>
    cases rx
    obtain ⟨_, _, vs, _, o, es, ep, h1, h2, h3, _⟩ := dk_rd I.hok hq
    exact ne_dict_int h1 h2.1 h3 hu (fin_bl I q rfl)
theorem op_le_str : OpR X (compareOp .LtE) (fun x y H Q => ∃ i j, x = .str i ∧ y = .str j ∧ Q (.bl (!(decide (j.cps.toList < i.cps.toList)))) H) := by
  intro pins s σ H x y v u Q I rx ry h
  obtain ⟨i, j, rfl, rfl, q⟩ := h
  obtain ⟨t, rfl⟩ := rx
  obtain ⟨t', rfl⟩ := ry
  exact PySem.P.le_str (fin_bl I q rfl)
end
end L2

set_option Elab.async false
set_option linter.all false
set_option maxRecDepth 100000
set_option maxHeartbeats 4000000
namespace L2
open PySem PySem.Spec PyProof.Rows
section
variable {X : Cx}
/-- == [] -/
theorem op_eq0 (hu : X.A.units < cLine) : OpR X (compareOp .Eq) (fun x y H Q => ∃ a b xs, x = .ref a ∧ y = .ref b ∧ SqL X.K H a xs ∧ SqL X.K H b [] ∧ Q (.bl xs.isEmpty) H) := by
  rintro pins s σ H x y v u Q I rx ry ⟨a, b, xs, rfl, rfl, h1, h2, q⟩
  cases rx; cases ry
  obtain ⟨its, rv, p, _⟩ := I.list h1
  obtain ⟨its2, rv2, p2, _⟩ := I.list h2
  have hl := rv.length
  have hl2 := rv2.length
  have e2 : its2 = [] := List.length_eq_zero_iff.mp hl2.symm
  subst e2
  cases xs with
  | nil =>
    have e1 : its = [] := List.length_eq_zero_iff.mp hl.symm
    subst e1
    exact SeqAt.RcAt.lists (e := fun _ => true) p.isList p2.isList rfl hu (fun i hi => absurd hi (Nat.not_lt_zero _)) _ _ _ _ (fin_bl I q rfl)
  | cons z zs =>
    exact SeqAt.RcAt.lists_lengths p.isList p2.isList (by rw [List.size_toArray, ← hl]; rfl) hu _ _ _ _ (fin_bl I q rfl)
theorem op_ne0 (hu : X.A.units < cLine) : OpR X (compareOp .NotEq) (fun x y H Q => ∃ a b xs, x = .ref a ∧ y = .ref b ∧ SqL X.K H a xs ∧ SqL X.K H b [] ∧ Q (.bl (!xs.isEmpty)) H) := by
  rintro pins s σ H x y v u Q I rx ry ⟨a, b, xs, rfl, rfl, h1, h2, q⟩
  cases rx; cases ry
  obtain ⟨its, rv, p, _⟩ := I.list h1
  obtain ⟨its2, rv2, p2, _⟩ := I.list h2
  have hl := rv.length
  have hl2 := rv2.length
  have e2 : its2 = [] := List.length_eq_zero_iff.mp hl2.symm
  subst e2
  cases xs with
  | nil =>
    have e1 : its = [] := List.length_eq_zero_iff.mp hl.symm
    subst e1
    exact SeqAt.RcNeAt.lists (e := fun _ => true) p.isList p2.isList rfl hu (fun i hi => absurd hi (Nat.not_lt_zero _)) _ _ _ _ (fin_bl I q rfl)
  | cons z zs =>
    exact SeqAt.RcNeAt.lists_lengths p.isList p2.isList (by rw [List.size_toArray, ← hl]; rfl) hu _ _ _ _ (fin_bl I q rfl)
end
theorem boot_ty_ValueError : bootBuiltins "ValueError" = some (.type "ValueError") := by decide +kernel
/-- a sign between two others -/
theorem one_lt {c d : Nat} : ((⟨#[c]⟩ : Str).cps.toList < (⟨#[d]⟩ : Str).cps.toList) ↔ c < d := by
  show ([c] : List Nat) < [d] ↔ c < d
  simp [List.cons_lt_cons_iff]
def outS (lo hi : Nat) (x : Str) : List Nat := (cs x).filter fun c => !(decide (lo ≤ c) && decide (c ≤ hi))
theorem out_nil {lo hi : Nat} {x : Str} : (outS lo hi x).isEmpty = (cs x).all fun c => decide (lo ≤ c) && decide (c ≤ hi) := by
  unfold outS
  induction cs x with
  | nil => rfl
  | cons c r ih =>
    rw [List.filter_cons, List.all_cons]
    cases h : (decide (lo ≤ c) && decide (c ≤ hi)) with
    | true => simpa using ih
    | false => simp
theorem name_out {x : Str} : nameD (.str x) = (decide (1 ≤ x.length) && decide (x.length ≤ 8) && (outS 97 122 x).isEmpty) := by
  rw [out_nil]
  unfold nameD
  simp only [letter_mem]
  congr 2
  funext c
  simp
def outV (lo hi : Nat) (x : Str) (i : Nat) : List V := (((cs x).take i).filter fun c => !(decide (lo ≤ c) && decide (c ≤ hi))).map fun c => V.str ⟨#[c]⟩
theorem outV_in {lo hi i c : Nat} {x : Str} (hc : (cs x)[i]? = some c) (h1 : lo ≤ c) (h2 : c ≤ hi) : outV lo hi x (i + 1) = outV lo hi x i := by
  unfold outV
  rw [List.take_add_one, hc, List.filter_append, List.map_append]
  simp [h1, h2]
theorem outV_out {lo hi i c : Nat} {x : Str} (hc : (cs x)[i]? = some c) (h : ¬ (lo ≤ c ∧ c ≤ hi)) : outV lo hi x (i + 1) = outV lo hi x i ++ [V.str ⟨#[c]⟩] := by
  unfold outV
  rw [List.take_add_one, hc, List.filter_append, List.map_append]
  congr 1
  have : (decide (lo ≤ c) && decide (c ≤ hi)) = false := by
    cases hb : (decide (lo ≤ c) && decide (c ≤ hi)) with
    | false => rfl
    | true => simp only [Bool.and_eq_true, decide_eq_true_eq] at hb; exact absurd hb h
  simp only [Option.toList_some, List.filter_cons, this, Bool.not_false, if_true, List.filter_nil, List.map_cons, List.map_nil]
theorem outV_len {lo hi i : Nat} {x : Str} : (outV lo hi x i).length ≤ x.length := by
  unfold outV
  rw [List.length_map]
  have e1 := List.length_filter_le (fun c => !(decide (lo ≤ c) && decide (c ≤ hi))) ((cs x).take i)
  rw [List.length_take, cs_len] at e1
  exact Nat.le_trans e1 (Nat.min_le_right _ _)
theorem outV_all {lo hi : Nat} {x : Str} : (outV lo hi x x.length).isEmpty = (outS lo hi x).isEmpty := by
  unfold outV outS
  rw [List.take_of_length_le (by rw [cs_len]; exact Nat.le_refl _)]
  cases (cs x).filter fun c => !(decide (lo ≤ c) && decide (c ≤ hi)) <;> rfl
theorem le_one {c d : Nat} {y : Str} (hy : y.cps.toList = [d]) : (!decide ((⟨#[c]⟩ : Str).cps.toList < y.cps.toList)) = decide (d ≤ c) := by
  rw [hy]
  show (!decide (([c] : List Nat) < [d])) = _
  by_cases h : d ≤ c
  · rw [decide_eq_true h, decide_eq_false (by simp [List.cons_lt_cons_iff]; omega)]; rfl
  · rw [decide_eq_false h, decide_eq_true (by simp [List.cons_lt_cons_iff]; omega)]; rfl
theorem ge_one {c d : Nat} {y : Str} (hy : y.cps.toList = [d]) : (!decide (y.cps.toList < (⟨#[c]⟩ : Str).cps.toList)) = decide (c ≤ d) := by
  rw [hy]
  show (!decide (([d] : List Nat) < [c])) = _
  by_cases h : c ≤ d
  · rw [decide_eq_true h, decide_eq_false (by simp [List.cons_lt_cons_iff]; omega)]; rfl
  · rw [decide_eq_false h, decide_eq_true (by simp [List.cons_lt_cons_iff]; omega)]; rfl
theorem c_a : (Str.ofString "a").cps.toList = [97] := by decide +kernel
theorem c_z : (Str.ofString "z").cps.toList = [122] := by decide +kernel
theorem c_0 : (Str.ofString "0").cps.toList = [48] := by decide +kernel
theorem c_9 : (Str.ofString "9").cps.toList = [57] := by decide +kernel
/-- the number that a text writes -/
def readN (x : Str) : Int := ((NumText.digitsVal x.cps.toList : Nat) : Int)
theorem wr_reads {x : Str} (h : wrD (.str x) = true) : PySem.intText? x = some (readN x) ∧ x.length ≤ 640 := by
  simp only [wrD, Bool.and_eq_true, decide_eq_true_eq, List.all_eq_true] at h
  obtain ⟨⟨⟨h1, h2⟩, h3⟩, _⟩ := h
  refine ⟨intText_digits (fun c hc => fig_mem.mp (h3 c hc)) (fun e => ?_) (by omega), by omega⟩
  have := cs_len (x := x)
  rw [show cs x = x.cps.toList from rfl, e] at this
  simp at this
  omega
theorem wr_short {x : Str} (h : x.length < 1) : wrD (.str x) = false := by
  simp only [wrD]
  rw [decide_eq_false (by omega : ¬ 1 ≤ x.length)]; simp
theorem wr_long {x : Str} (h : 10 < x.length) : wrD (.str x) = false := by
  simp only [wrD]
  rw [decide_eq_false (by omega : ¬ x.length ≤ 10)]; simp
theorem fig_out {x : Str} : ((cs x).all fun c => decide (c ∈ cs figS)) = (outS 48 57 x).isEmpty := by
  rw [out_nil]
  congr 1
  funext c
  simp only [fig_mem]
  simp
theorem wr_other {x : Str} (h : (outS 48 57 x).isEmpty = false) : wrD (.str x) = false := by
  simp only [wrD, fig_out, h]; simp
theorem str_one {x : Str} {c : Nat} (hc : (cs x)[0]? = some c) (h : x.length = 1) : x = ⟨#[c]⟩ := by
  have e : cs x = [c] := by
    have hl := cs_len (x := x)
    rw [h] at hl
    match hq : cs x, hl with
    | [d], _ => rw [hq] at hc; simp at hc; rw [hc]
  cases x with
  | mk a =>
    have : a.toList = [c] := e
    rw [show a = #[c] from Array.toList_inj.mp this]
theorem wr_lead {x : Str} (hc : (cs x)[0]? = some 48) (h : 1 < x.length) : wrD (.str x) = false := by
  have n : x ≠ "0" := fun e => by rw [e] at h; exact absurd h (by decide +kernel)
  simp only [wrD]
  rw [decide_eq_false n, List.head?_eq_getElem?, hc]
  simp
theorem wr_yes {x : Str} {c : Nat} (h1 : 1 ≤ x.length) (h2 : x.length ≤ 10) (hc : (cs x)[0]? = some c) (hz : c = 48 → x.length = 1) (ho : (outS 48 57 x).isEmpty = true) : wrD (.str x) = true := by
  simp only [wrD, fig_out, ho]
  rw [decide_eq_true h1, decide_eq_true h2, List.head?_eq_getElem?, hc]
  by_cases e : c = 48
  · subst e
    have := str_one hc (hz rfl)
    rw [decide_eq_true (show x = "0" from this.trans (by decide +kernel))]
    simp
  · simp [e]
theorem pickN {α : Type} {xs : List α} {i : Int} (h0 : 0 ≤ i) (h1 : i < xs.length) : ∃ v, v ∈ xs ∧ atI xs i = some v := by
  obtain ⟨j, rfl⟩ := Int.eq_ofNat_of_zero_le h0
  have hj : j < xs.length := by omega
  exact ⟨xs[j], List.getElem_mem hj, atI_nat (List.getElem?_eq_getElem hj)⟩
theorem log_small {n : Int} (h0 : 0 ≤ n) (h1 : n < 10 ^ Int.toNat 12) : n.natAbs.log2 < 1920 := by
  have e : (10 : Int) ^ Int.toNat 12 = 1000000000000 := by decide +kernel
  rw [e] at h1
  by_cases hz : n.natAbs = 0
  · rw [hz]; decide
  · refine Nat.lt_of_lt_of_le ((Nat.log2_lt hz).mpr (show n.natAbs < 2 ^ 40 from Nat.lt_of_lt_of_le (show n.natAbs < 1000000000000 by omega) (by decide))) (by decide)
end L2

set_option Elab.async false
set_option linter.all false
set_option maxRecDepth 100000
set_option maxHeartbeats 4000000
namespace K01
open PySem L2 PySem.Spec PyProof.Rows
def top (i : Nat) : Stmt := PySem.Challenge.pw_spareline_k01_names_strengths_numbers.main.body.getD i (.Pass ⟨0, 0, 0, 0⟩)
abbrev s_is_name : Stmt := top 9
abbrev s_is_strength : Stmt := top 10
abbrev s_number_of : Stmt := top 11
abbrev s_is_written_number : Stmt := top 12
abbrev s_is_made_of : Stmt := top 13
abbrev s_l_cell_at : Stmt := top 15
abbrev s_l_mix : Stmt := top 16
abbrev s_l_text : Stmt := top 17
abbrev s_l_number_text : Stmt := top 18
abbrev s_l_whole : Stmt := top 19
abbrev s_l_is_name : Stmt := top 20
abbrev s_l_read : Stmt := top 21
abbrev s_l_told : Stmt := top 22
abbrev s_l_same : Stmt := top 23
abbrev s_law : Stmt := top 24
abbrev s_NoRow_i : Stmt := inClass (top 2) 0
structure Adr where
  is_name : Addr
  fd_is_name : FuncData
  is_strength : Addr
  fd_is_strength : FuncData
  number_of : Addr
  fd_number_of : FuncData
  is_written_number : Addr
  fd_is_written_number : FuncData
  is_made_of : Addr
  fd_is_made_of : FuncData
  l_cell_at : Addr
  fd_l_cell_at : FuncData
  l_mix : Addr
  fd_l_mix : FuncData
  l_text : Addr
  fd_l_text : FuncData
  l_number_text : Addr
  fd_l_number_text : FuncData
  l_whole : Addr
  fd_l_whole : FuncData
  l_is_name : Addr
  fd_l_is_name : FuncData
  l_read : Addr
  fd_l_read : FuncData
  l_told : Addr
  fd_l_told : FuncData
  l_same : Addr
  fd_l_same : FuncData
  law : Addr
  fd_law : FuncData
  tk_FIGURES : Tok
  tk_GREATEST_STRENGTH : Tok
  tk_LETTERS : Tok
  tk_LONGEST_NAME : Tok
  tk_LONGEST_NUMBER : Tok
  NoRow : Addr
  NetError : Addr
  NoRow_i : Addr
  fd_NoRow_i : FuncData
structure Txt (K : PySem.W.Frag) (mg : Str → Option Value) (t : Adr) : Prop where
  f_is_name : Top K mg "is_name" s_is_name ["thing"] t.is_name t.fd_is_name
  f_is_strength : Top K mg "is_strength" s_is_strength ["thing"] t.is_strength t.fd_is_strength
  f_number_of : Top K mg "number_of" s_number_of ["text"] t.number_of t.fd_number_of
  f_is_written_number : Top K mg "is_written_number" s_is_written_number ["thing"] t.is_written_number t.fd_is_written_number
  f_is_made_of : Top K mg "is_made_of" s_is_made_of ["text", "signs"] t.is_made_of t.fd_is_made_of
  f_l_cell_at : Top K mg "_law_cell_at" s_l_cell_at ["_law_script", "_law_k"] t.l_cell_at t.fd_l_cell_at
  f_l_mix : Top K mg "_law_mix" s_l_mix ["_law_cell", "_law_k"] t.l_mix t.fd_l_mix
  f_l_text : Top K mg "_law_text" s_l_text ["_law_cell"] t.l_text t.fd_l_text
  f_l_number_text : Top K mg "_law_number_text" s_l_number_text ["_law_cell"] t.l_number_text t.fd_l_number_text
  f_l_whole : Top K mg "_law_whole" s_l_whole ["_law_cell"] t.l_whole t.fd_l_whole
  f_l_is_name : Top K mg "_law_is_name" s_l_is_name ["_law_text_here"] t.l_is_name t.fd_l_is_name
  f_l_read : Top K mg "_law_read" s_l_read ["_law_text_here"] t.l_read t.fd_l_read
  f_l_told : Top K mg "_law_told" s_l_told ["_law_thing"] t.l_told t.fd_l_told
  f_l_same : Top K mg "_law_same" s_l_same ["_law_found", "_law_due"] t.l_same t.fd_l_same
  f_law : Top K mg "law" s_law ["_law_script"] t.law t.fd_law
  b_all : mg "all" = none
  b_bool : mg "bool" = none
  b_int : mg "int" = none
  b_isinstance : mg "isinstance" = none
  b_len : mg "len" = none
  b_max : mg "max" = none
  b_min : mg "min" = none
  b_range : mg "range" = none
  b_str : mg "str" = none
  c_FIGURES : mg "FIGURES" = some (.str "0123456789" t.tk_FIGURES)
  c_GREATEST_STRENGTH : mg "GREATEST_STRENGTH" = some (.int 1000000000 t.tk_GREATEST_STRENGTH)
  c_LETTERS : mg "LETTERS" = some (.str "abcdefghijklmnopqrstuvwxyz" t.tk_LETTERS)
  c_LONGEST_NAME : mg "LONGEST_NAME" = some (.int 8 t.tk_LONGEST_NAME)
  c_LONGEST_NUMBER : mg "LONGEST_NUMBER" = some (.int 10 t.tk_LONGEST_NUMBER)
  b_ValueError : mg "ValueError" = none
  x_NoRow : XTop K mg "NoRow" "NoRow.__init__" s_NoRow_i ["self", "row"] t.NoRow t.NetError t.NoRow_i t.fd_NoRow_i
  m_NetError : mg "NetError" = some (.ref t.NetError)
  na_row : NoAttr K t.NoRow "row"
  k_NE : PySem.W.kitOne K (.ref t.NoRow) (.ref t.NetError) = some true
  k_VE : PySem.W.kitOne K (.ref t.NoRow) (.type "ValueError") = some true
theorem sc_NoRow_i : FnScope ["self", "row"] ["self", "row"] (defScope s_NoRow_i) := ⟨rfl, rfl, rfl, by decide +kernel, rfl, by decide +kernel, by decide +kernel⟩
theorem sc_is_name : FnScope ["thing"] ["thing"] (defScope s_is_name) := ⟨rfl, rfl, rfl, by decide +kernel, rfl, by decide +kernel, by decide +kernel⟩
theorem sc_is_strength : FnScope ["thing"] ["thing"] (defScope s_is_strength) := ⟨rfl, rfl, rfl, by decide +kernel, rfl, by decide +kernel, by decide +kernel⟩
theorem sc_number_of : FnScope ["text"] ["text"] (defScope s_number_of) := ⟨rfl, rfl, rfl, by decide +kernel, rfl, by decide +kernel, by decide +kernel⟩
theorem sc_is_written_number : FnScope ["thing"] ["thing"] (defScope s_is_written_number) := ⟨rfl, rfl, rfl, by decide +kernel, rfl, by decide +kernel, by decide +kernel⟩
theorem sc_is_made_of : FnScope ["text", "signs"] ["text", "signs"] (defScope s_is_made_of) := ⟨rfl, rfl, rfl, by decide +kernel, rfl, by decide +kernel, by decide +kernel⟩
theorem sc_l_cell_at : FnScope ["_law_script", "_law_k"] ["_law_script", "_law_k"] (defScope s_l_cell_at) := ⟨rfl, rfl, rfl, by decide +kernel, rfl, by decide +kernel, by decide +kernel⟩
theorem sc_l_mix : FnScope ["_law_cell", "_law_k", "_law_number"] ["_law_cell", "_law_k"] (defScope s_l_mix) := ⟨rfl, rfl, rfl, by decide +kernel, rfl, by decide +kernel, by decide +kernel⟩
theorem sc_l_text : FnScope ["_law_cell", "_law_letters", "_law_text_here", "_law_signs", "_law_at"] ["_law_cell"] (defScope s_l_text) := ⟨rfl, rfl, rfl, by decide +kernel, rfl, by decide +kernel, by decide +kernel⟩
theorem sc_l_number_text : FnScope ["_law_cell", "_law_text_here", "_law_signs", "_law_at", "_law_sign"] ["_law_cell"] (defScope s_l_number_text) := ⟨rfl, rfl, rfl, by decide +kernel, rfl, by decide +kernel, by decide +kernel⟩
theorem sc_l_whole : FnScope ["_law_cell", "_law_far"] ["_law_cell"] (defScope s_l_whole) := ⟨rfl, rfl, rfl, by decide +kernel, rfl, by decide +kernel, by decide +kernel⟩
theorem sc_l_is_name : FnScope ["_law_text_here"] ["_law_text_here"] (defScope s_l_is_name) := ⟨rfl, rfl, rfl, by decide +kernel, rfl, by decide +kernel, by decide +kernel⟩
theorem sc_l_read : FnScope ["_law_text_here"] ["_law_text_here"] (defScope s_l_read) := ⟨rfl, rfl, rfl, by decide +kernel, rfl, by decide +kernel, by decide +kernel⟩
theorem sc_l_told : FnScope ["_law_thing", "_law_found", "e"] ["_law_thing"] (defScope s_l_told) := ⟨rfl, rfl, rfl, by decide +kernel, rfl, by decide +kernel, by decide +kernel⟩
theorem sc_l_same : FnScope ["_law_found", "_law_due"] ["_law_found", "_law_due"] (defScope s_l_same) := ⟨rfl, rfl, rfl, by decide +kernel, rfl, by decide +kernel, by decide +kernel⟩
theorem sc_law : FnScope ["_law_script", "_law_k", "_law_cell", "_law_text_here", "_law_number", "_law_row", "_law_due", "_law_thing"] ["_law_script"] (defScope s_law) := ⟨rfl, rfl, rfl, by decide +kernel, rfl, by decide +kernel, by decide +kernel⟩
end K01

set_option Elab.async false
set_option linter.all false
set_option maxRecDepth 100000
set_option maxHeartbeats 4000000
namespace K01
open PySem L2 PySem.Spec PyProof.Rows
section
variable {P : Program} {w : World} {K : PySem.W.Frag} {mg : Str → Option Value} {base : Heap} {t : Adr}
/-! ### a cell of the script -/
def sp_cell (K : PySem.W.Frag) : Sp := fun vs H Q _ => ∃ (a : Addr) (ns : List Int) (k : Int), vs = [.ref a, .int k] ∧ 0 ≤ k ∧ SqL K H a (ns.map V.int) ∧ Q (.int (ns.getD k.toNat 0)) H
theorem ok_l_cell_at (T : Txt K mg t) : FnOk P w K mg base CX0 1 t.l_cell_at t.fd_l_cell_at ["_law_script", "_law_k"] (sp_cell K) := by
  refine T.f_l_cell_at.fn.ok sc_l_cell_at (fun vs H Q E h => ?_) (fun cdv A outer s H vs Q E hr h => ?_)
  · obtain ⟨a, ns, k, rfl, _⟩ := h; rfl
  · obtain ⟨a, ns, k0, rfl, h0, hS, q⟩ := h
    obtain ⟨k, rfl⟩ := Int.eq_ofNat_of_zero_le h0
    rw [Int.toNat_natCast] at q
    refine ⟨_, (pss_cons (ps_if (pt_cmpR op_lt (pv 1) (pe_callB call_len (by rfl) T.b_len boot_len' (pa_cons (pv 0) pa_nil)) (nomark _))
        (pss_one (ps_ret (pe_ix ix_list (pv 0) (pv 1) (fun _ _ => rfl))))
        pss_nil)
      (pss_one (ps_ret pe_int))), ?_⟩
    refine ⟨_, rfl, _, rfl, .ref a, ns.length, rfl, .inl ⟨_, hS, by simp⟩, _, _, rfl, rfl, _, rfl, ?_⟩
    refine iteD (fun hk => ?_) (fun hk => ?_)
    · have hk' : k < ns.length := by omega
      refine ⟨_, rfl, _, rfl, a, _, _, .int ns[k], rfl, rfl, hS, atI_nat (by simp [hk']), ?_⟩
      rw [show ns.getD k 0 = ns[k] by simp [hk']] at q
      exact q
    · have hk' : ns.length ≤ k := by omega
      rw [show ns.getD k 0 = 0 by simp [hk']] at q
      exact q
/-! ### mixing -/
def sp_mix : Sp := fun vs H Q _ => ∃ (c k : Int), vs = [.int c, .int k] ∧ 0 ≤ k ∧ k ≤ 1000000000 ∧ Q (.int (mixF c k)) H
theorem ok_l_mix (T : Txt K mg t) : FnOk P w K mg base CX0 1 t.l_mix t.fd_l_mix ["_law_cell", "_law_k"] sp_mix := by
  refine T.f_l_mix.fn.ok sc_l_mix (fun vs H Q E h => ?_) (fun cdv A outer s H vs Q E hr h => ?_)
  · obtain ⟨c, k, rfl, _⟩ := h; rfl
  · obtain ⟨c, k, rfl, h0, hk, q⟩ := h
    have e1 := Int.emod_nonneg c (show (2147483647 : Int) ≠ 0 by decide)
    have e2 := Int.emod_lt_of_pos c (show (0 : Int) < 2147483647 by decide)
    refine ⟨_, (pss_cons (ps_set (i := 2) sc_l_mix.nd rfl (Or.inl rfl) (pe_op op_mod (pe_op op_mul (pe_op op_add (pe_op op_add (pe_op op_mod (pv 0) pe_int) (pe_op op_mul pe_int (pv 1))) pe_int) pe_int) pe_int))
      (pss_cons (ps_set (i := 2) sc_l_mix.nd rfl (Or.inl rfl) (pe_op op_mod (pe_op op_add (pe_op op_mul (pv 2) (pv 2)) (pv 1)) pe_int))
      (pss_one (ps_ret (pe_op op_mod (pe_op op_mul (pv 2) (pv 2)) pe_int))))), ?_⟩
    refine ⟨_, rfl, _, _, rfl, rfl, (by show (0 : Int) < 2147483647; decide), _, rfl, _, _, rfl, rfl, .inl ⟨by decide, by decide⟩, _, _, rfl, rfl, _, _, rfl, rfl, _, _, rfl, rfl, .inr ⟨by decide, by decide⟩, _, _, rfl, rfl, (by show (0 : Int) < 2147483647; decide), ?_⟩
    have f1 := Int.emod_nonneg ((c % 2147483647 + 7919 * k + 1) * 48271) (show (2147483647 : Int) ≠ 0 by decide)
    have f2 := Int.emod_lt_of_pos ((c % 2147483647 + 7919 * k + 1) * 48271) (show (0 : Int) < 2147483647 by decide)
    refine ⟨_, rfl, _, rfl, _, _, rfl, rfl, .inl ⟨by omega, by omega⟩, _, rfl, _, _, rfl, rfl, _, _, rfl, rfl, (by show (0 : Int) < 2147483629; decide), ?_⟩
    have g1 := Int.emod_nonneg ((c % 2147483647 + 7919 * k + 1) * 48271 % 2147483647 * ((c % 2147483647 + 7919 * k + 1) * 48271 % 2147483647) + k) (show (2147483629 : Int) ≠ 0 by decide)
    have g2 := Int.emod_lt_of_pos ((c % 2147483647 + 7919 * k + 1) * 48271 % 2147483647 * ((c % 2147483647 + 7919 * k + 1) * 48271 % 2147483647) + k) (show (0 : Int) < 2147483629 by decide)
    refine ⟨_, rfl, _, rfl, _, _, rfl, rfl, .inl ⟨by omega, by omega⟩, _, _, rfl, rfl, (by show (0 : Int) < 2147483587; decide), ?_⟩
    exact q
/-! ### signs of a text -/
def sp_made : Sp := fun vs H Q _ => ∃ (x y : Str), vs = [.str x, .str y] ∧ x.length < sizeLine ∧ ∀ H', Same H H' → Q (.bl ((cs x).all fun c => !(Builtin.Str.occurrences y ⟨#[c]⟩ 0 y.length 1).isEmpty)) H'
theorem ok_is_made_of (T : Txt K mg t) : FnOk P w K mg base CX0 1 t.is_made_of t.fd_is_made_of ["text", "signs"] sp_made := by
  refine T.f_is_made_of.fn.ok sc_is_made_of (fun vs H Q E h => ?_) (fun cdv A outer s H vs Q E hr h => ?_)
  · obtain ⟨x, y, rfl, _⟩ := h; rfl
  · obtain ⟨x, y, rfl, hz, q⟩ := h
    refine ⟨_, (pss_one (ps_ret (pe_callB call_all (by rfl) T.b_all boot_all' (pa_cons (pe_comp ["sign"] [1] rfl (pi_str (pv 0)) (fun _ _ _ _ _ => (pg_name (i := 0) (show (["sign", "signs"] : List Str).Nodup by decide +kernel) rfl (Or.inl rfl))) (fun _ _ _ _ _ => pif_nil) (fun _ _ _ _ _ => (pe_cmpR op_in_str (pv 0) (pv 1) rfl)) ⟨⟨_, rfl, rfl, .inl rfl⟩, trivial⟩ (hfr := by show ∀ y ∈ (_ : List (Str × NameKind)), y.2 = NameKind.free → (defScope s_is_made_of).names.lookup y.1 = some NameKind.cell ∨ (defScope s_is_made_of).names.lookup y.1 = some NameKind.free; decide +kernel)) pa_nil)))), ?_⟩
    refine ⟨_, rfl, x, rfl, ?_⟩
    refine comp_inv x.length (fun i ys H' => H' = H ∧ ys = ((cs x).take i).map fun c => V.bl (!(Builtin.Str.occurrences y ⟨#[c]⟩ 0 y.length 1).isEmpty)) ⟨rfl, rfl⟩ (fun i ys H' p => ?_) (fun i ys H' hi p => ?_) (fun ys H' p => ?_)
    · rw [p.2, List.length_map, List.length_take, cs_len]
      exact Nat.lt_of_le_of_lt (Nat.min_le_right _ _) hz
    · obtain ⟨rfl, rfl⟩ := p
      refine ⟨hi, ?_⟩
      rintro v H2 ⟨rfl, c, hc, rfl⟩
      simp only [gName, tYes, ↓reduceIte]
      refine ⟨_, rfl, _, rfl, _, _, rfl, rfl, nxC hi ⟨rfl, ?_⟩⟩
      rw [List.take_add_one, hc, List.map_append]
      rfl
    · obtain ⟨rfl, rfl⟩ := p
      refine ⟨Nat.le_refl _, fun p hp => ⟨rfl, p, (cs x).map (fun c => (!(Builtin.Str.occurrences y ⟨#[c]⟩ 0 y.length 1).isEmpty)), rfl, .inl (.inl ?_), ?_⟩⟩
      · rw [upd_same, List.take_of_length_le (by rw [cs_len]; exact Nat.le_refl _), List.map_map]
        rfl
      · rw [List.all_map]
        exact q _ (Same.updN hp)
/-! ### names -/
def sp_isname (K : PySem.W.Frag) : Sp := fun vs H Q _ => ∃ v d, vs = [v] ∧ Rep K H v d ∧ (∀ x, d = .str x → x.length < sizeLine) ∧ ∀ H', Same H H' → Q (.bl (nameD d)) H'
theorem ok_is_name (T : Txt K mg t) : FnOk P w K mg base CX0 2 t.is_name t.fd_is_name ["thing"] (sp_isname K) := by
  refine T.f_is_name.fn.ok sc_is_name (fun vs H Q E h => ?_) (fun cdv A outer s H vs Q E hr h => ?_)
  · obtain ⟨v, d, rfl, _⟩ := h; rfl
  · obtain ⟨v, d, rfl, hd, hz, q⟩ := h
    refine ⟨_, (pss_cons (ps_if (pt_not (pt_val (pe_callB call_isi (by rfl) T.b_isinstance boot_isinstance' (pa_cons (pv 0) (pa_cons (pe_bltn (v := .ty "str") rfl T.b_str boot_ty_str rfl) pa_nil)))))
        (pss_one (ps_ret pe_bl))
        pss_nil)
      (pss_one (ps_ret (pe_and (pe_chain op_le op_le pe_int (pe_callB call_len (by rfl) T.b_len boot_len' (pa_cons (pv 0) pa_nil)) (pe_glob (v := .int 8) rfl T.c_LONGEST_NAME ⟨_, rfl⟩)) (pe_one (pe_call (ok_is_made_of T) (hr.mono (by decide)) rfl T.f_is_made_of.mg T.f_is_made_of.kp T.f_is_made_of.bd .nil pass0 (pa_cons (pv 0) (pa_cons (pe_glob (v := .str "abcdefghijklmnopqrstuvwxyz") rfl T.c_LETTERS ⟨_, rfl⟩) pa_nil)))))))), ?_⟩
    refine ⟨_, rfl, _, d, "str", rfl, hd, rfl, _, rfl, ?_⟩
    rw [isiB_str]
    cases d with
    | str x =>
      cases hd
      have hx := hz x rfl
      refine iteF ⟨_, rfl, .str x, x.length, rfl, ⟨Nat.le_of_lt hx, rfl⟩, _, _, rfl, rfl, _, rfl, ?_⟩
      refine iteD (fun h1 => ⟨_, _, rfl, rfl, _, rfl, ?_⟩) (fun h1 => ⟨_, rfl, ?_⟩)
      · refine iteD (fun h2 => ⟨_, rfl, x, _, rfl, hx, fun H' hH => ?_⟩) (fun h2 => ?_)
        · have e : nameD (.str x) = ((cs x).all fun c => !(Builtin.Str.occurrences lettersS ⟨#[c]⟩ 0 lettersS.length 1).isEmpty) := by
            simp only [nameD, StrLaws.found_one]
            rw [decide_eq_true (by omega : 1 ≤ x.length), decide_eq_true (by omega : x.length ≤ 8)]
            rfl
          rw [e] at q
          exact q _ hH
        · have e : nameD (.str x) = false := by
            simp only [nameD]
            rw [decide_eq_false (by omega : ¬ x.length ≤ 8)]; simp
          rw [e] at q
          exact q _ (Same.refl _)
      · have e : nameD (.str x) = false := by
          simp only [nameD]
          rw [decide_eq_false (by omega : ¬ 1 ≤ x.length)]; simp
        rw [e] at q
        exact q _ (Same.refl _)
    | _ => exact iteT (q _ (Same.refl _))
def sp_isstr (K : PySem.W.Frag) : Sp := fun vs H Q _ => ∃ v d, vs = [v] ∧ Rep K H v d ∧ Q (.bl (strengthD d)) H
theorem ok_is_strength (T : Txt K mg t) : FnOk P w K mg base CX0 1 t.is_strength t.fd_is_strength ["thing"] (sp_isstr K) := by
  refine T.f_is_strength.fn.ok sc_is_strength (fun vs H Q E h => ?_) (fun cdv A outer s H vs Q E hr h => ?_)
  · obtain ⟨v, d, rfl, _⟩ := h; rfl
  · obtain ⟨v, d, rfl, hd, q⟩ := h
    refine ⟨_, (pss_cons (ps_if (PW.pt (pw_or (pt_val (pe_callB call_isi (by rfl) T.b_isinstance boot_isinstance' (pa_cons (pv 0) (pa_cons (pe_bltn (v := .ty "bool") rfl T.b_bool boot_ty_bool rfl) pa_nil)))) (pw_or1 (pt_not (pt_val (pe_callB call_isi (by rfl) T.b_isinstance boot_isinstance' (pa_cons (pv 0) (pa_cons (pe_bltn (v := .ty "int") rfl T.b_int boot_ty_int rfl) pa_nil))))))))
        (pss_one (ps_ret pe_bl))
        pss_nil)
      (pss_one (ps_ret (pe_chain op_le op_le pe_int (pv 0) (pe_glob (v := .int 1000000000) rfl T.c_GREATEST_STRENGTH ⟨_, rfl⟩))))), ?_⟩
    refine ⟨_, rfl, _, d, "bool", rfl, hd, rfl, _, rfl, ?_⟩
    cases d with
    | int i =>
      cases hd
      refine iteF ⟨_, rfl, _, .int i, "int", rfl, .int i, rfl, _, rfl, iteF ⟨_, rfl, _, _, rfl, rfl, _, rfl, ?_⟩⟩
      refine iteD (fun h1 => ⟨_, _, rfl, rfl, ?_⟩) (fun h1 => ?_)
      · simp only [strengthD, decide_eq_true h1, Bool.true_and] at q
        exact q
      · simp only [strengthD, decide_eq_false h1, Bool.false_and] at q
        exact q
    | bl b => exact iteT q
    | _ => exact iteF ⟨_, rfl, _, _, "int", rfl, hd, rfl, _, rfl, iteT q⟩
/-! ### numbers written -/
def sp_wr (K : PySem.W.Frag) : Sp := fun vs H Q _ => ∃ v d, vs = [v] ∧ Rep K H v d ∧ (∀ x, d = .str x → x.length < sizeLine) ∧ ∀ H', Same H H' → Q (.bl (wrD d)) H'
theorem ok_is_written_number (T : Txt K mg t) : FnOk P w K mg base CX0 2 t.is_written_number t.fd_is_written_number ["thing"] (sp_wr K) := by
  refine T.f_is_written_number.fn.ok sc_is_written_number (fun vs H Q E h => ?_) (fun cdv A outer s H vs Q E hr h => ?_)
  · obtain ⟨v, d, rfl, _⟩ := h; rfl
  · obtain ⟨v, d, rfl, hd, hz, q⟩ := h
    refine ⟨_, (pss_cons (ps_if (pt_not (pt_val (pe_callB call_isi (by rfl) T.b_isinstance boot_isinstance' (pa_cons (pv 0) (pa_cons (pe_bltn (v := .ty "str") rfl T.b_str boot_ty_str rfl) pa_nil)))))
        (pss_one (ps_ret pe_bl))
        pss_nil)
      (pss_cons (ps_if (PW.pt (pw_or (pt_not (pt_chain op_le op_le pe_int (pe_callB call_len (by rfl) T.b_len boot_len' (pa_cons (pv 0) pa_nil)) (pe_glob (v := .int 10) rfl T.c_LONGEST_NUMBER ⟨_, rfl⟩))) (pw_or1 (pt_not (pt_val (pe_call (ok_is_made_of T) (hr.mono (by decide)) rfl T.f_is_made_of.mg T.f_is_made_of.kp T.f_is_made_of.bd .nil pass0 (pa_cons (pv 0) (pa_cons (pe_glob (v := .str "0123456789") rfl T.c_FIGURES ⟨_, rfl⟩) pa_nil))))))))
        (pss_one (ps_ret pe_bl))
        pss_nil)
      (pss_one (ps_ret (pe_or (pe_cmpR op_eq (pv 0) pe_str (nomark _)) (pe_one (pe_cmpR op_ne (pe_ix ix_str (pv 0) pe_int (fun _ _ => rfl)) pe_str (nomark _)))))))), ?_⟩
    refine ⟨_, rfl, _, d, "str", rfl, hd, rfl, _, rfl, ?_⟩
    rw [isiB_str]
    cases d with
    | str x =>
      cases hd
      have hx := hz x rfl
      refine iteF ⟨_, rfl, .str x, x.length, rfl, ⟨Nat.le_of_lt hx, rfl⟩, _, _, rfl, rfl, _, rfl, ?_⟩
      refine iteD (fun h1 => ⟨_, _, rfl, rfl, _, rfl, ?_⟩) (fun h1 => ⟨_, rfl, ?_⟩)
      · by_cases h2 : (x.length : Int) ≤ 10
        · rw [decide_eq_true h2]
          refine iteF ⟨_, rfl, x, _, rfl, hx, fun H' hH => ⟨_, rfl, ?_⟩⟩
          simp only [StrLaws.found_one]
          by_cases h3 : ((cs x).all fun c => decide (c ∈ cs figS)) = true
          · rw [show ((cs x).all fun c => decide (c ∈ (Str.ofString "0123456789").cps.toList)) = true from h3]
            refine iteF ⟨_, rfl, rfl, _, rfl, ?_⟩
            have base : wrD (.str x) = (decide (x = "0") || !decide ((cs x).head? = some 48)) := by
              simp only [wrD]
              rw [h3, decide_eq_true (by omega : 1 ≤ x.length), decide_eq_true (by omega : x.length ≤ 10)]
              simp
            by_cases h4 : x = "0"
            · rw [base, decide_eq_true h4] at q
              rw [decide_eq_true (by rw [h4])]
              exact iteT (q _ hH)
            · rw [base, decide_eq_false h4, Bool.false_or] at q
              rw [decide_eq_false (fun e => h4 (by injection e))]
              obtain ⟨c, hc⟩ : ∃ c, (cs x)[0]? = some c := ⟨_, List.getElem?_eq_getElem (by rw [cs_len]; omega)⟩
              refine iteF ⟨_, rfl, _, _, c, rfl, rfl, Nat.le_of_lt hx, atI_nat hc, rfl, ?_⟩
              have : (!decide (V.str ⟨#[c]⟩ = V.str "0")) = (!decide ((cs x).head? = some 48)) := by
                rw [List.head?_eq_getElem?, hc, e48]
                congr 1
                refine decide_eq_decide.mpr ?_
                constructor
                · intro e
                  injection e with e
                  have := congrArg cs e
                  rw [cs_c1, cs_c1] at this
                  injection this with this
                  rw [this]
                · intro e
                  injection e with e
                  rw [e]
              rw [this]
              exact q _ hH
          · have h3 : ((cs x).all fun c => decide (c ∈ cs figS)) = false := by simpa using h3
            rw [show ((cs x).all fun c => decide (c ∈ (Str.ofString "0123456789").cps.toList)) = false from h3]
            have e : wrD (.str x) = false := by
              simp only [wrD]
              rw [h3]; simp
            rw [e] at q
            exact iteT (q _ hH)
        · rw [decide_eq_false h2]
          have e : wrD (.str x) = false := by
            simp only [wrD]
            rw [decide_eq_false (by omega : ¬ x.length ≤ 10)]; simp
          rw [e] at q
          exact iteT (iteT (q _ (Same.refl _)))
      · have e : wrD (.str x) = false := by
          simp only [wrD]
          rw [decide_eq_false (by omega : ¬ 1 ≤ x.length)]; simp
        rw [e] at q
        exact iteT (iteT (q _ (Same.refl _)))
    | _ => exact iteT (q _ (Same.refl _))
end
end K01

set_option Elab.async false
set_option linter.all false
set_option maxRecDepth 100000
set_option maxHeartbeats 4000000
namespace K01
open PySem L2 PySem.Spec PyProof.Rows
section
variable {P : Program} {w : World} {K : PySem.W.Frag} {mg : Str → Option Value} {base : Heap} {t : Adr}
/-! ### the refusal, and the number that a text writes -/
def sp_init (K : PySem.W.Frag) : Sp := fun vs H Q _ => ∃ x C v D fI, vs = [.ref x, v] ∧ XCls K C D fI ∧ NoAttr K C "row" ∧ H x = some (.ext (ExcNew x C none)) ∧ ∀ dx, H dx = none → dx ≠ x → Q .non (upd (upd H dx (.ext (XdAt dx [("row", v)]))) x (.ext (ExcNew x C (some dx))))
theorem ok_NoRow_i (T : Txt K mg t) : FnOk P w K mg base CX0 1 t.NoRow_i t.fd_NoRow_i ["self", "row"] (sp_init K) := by
  refine T.x_NoRow.fn.ok sc_NoRow_i (fun vs H Q E h => ?_) (fun cdv A outer s H vs Q E hr h => ?_)
  · obtain ⟨x, C, v, D, fI, rfl, _⟩ := h; rfl
  · obtain ⟨x, C, v, D, fI, rfl, c, na, hx, q⟩ := h
    refine ⟨_, pss_one (ps_xset (pv 0) (pv 1)), ?_⟩
    exact ⟨_, rfl, _, rfl, x, C, D, fI, none, rfl, c, na, hx, .inl ⟨rfl, fun dx h1 h2 => q dx h1 h2⟩⟩
def sp_num (K : PySem.W.Frag) (C : Addr) : Sp := fun vs H Q E => ∃ v d, vs = [v] ∧ Rep K H v d ∧ (∀ x, d = .str x → x.length < sizeLine) ∧
  (∀ x H', d = .str x → wrD d = true → Same H H' → Q (.int (readN x)) H') ∧
  (wrD d = false → ∀ x dx H', Same H H' → H x = none → H dx = none → dx ≠ x → H' x = some (.ext (ExcAt x C (some dx))) → H' dx = some (.ext (XdAt dx [("row", v)])) → E (.ref x) (some dx) H')
theorem ok_number_of (T : Txt K mg t) : FnOk P w K mg base (CXe P w) 3 t.number_of t.fd_number_of ["text"] (sp_num K t.NoRow) := by
  refine T.f_number_of.fn.okX sc_number_of (fun vs H Q E h => ?_) (fun cdv A outer s H vs Q E hr h => ?_)
  · obtain ⟨v, d, rfl, _⟩ := h; rfl
  · obtain ⟨v, d, rfl, hd, hz, q1, q2⟩ := h
    refine ⟨_, (pss_cons (ps_if (pt_not (pt_val (pe_call (ok_is_written_number T) (hr.mono (by decide)) rfl T.f_is_written_number.mg T.f_is_written_number.kp T.f_is_written_number.bd .nil pass0 (pa_cons (pv 0) pa_nil))))
        (pss_one (ps_raise T.x_NoRow.cls (ok_NoRow_i T) (hr.mono (by decide)) T.x_NoRow.bd rfl T.x_NoRow.mg (pa_cons (pv 0) pa_nil)))
        pss_nil)
      (pss_one (ps_ret (pe_callTy call_int_str (by rfl) T.b_int boot_ty_int (pa_cons (pv 0) pa_nil))))), ?_⟩
    refine ⟨_, rfl, _, d, rfl, hd, hz, fun H' hH => ⟨_, rfl, ?_⟩⟩
    by_cases hw : wrD d = true
    · rw [hw]
      cases d with
      | str x =>
        cases hd
        obtain ⟨e1, e2⟩ := wr_reads hw
        exact iteF ⟨_, rfl, x, _, rfl, e1, e2, q1 x H' rfl hw hH⟩
      | _ => exact absurd hw (by simp [wrD])
    · have hw : wrD d = false := by simpa using hw
      rw [hw]
      refine iteT ⟨_, rfl, (by show 1 ≤ 100; decide), fun x hx => ⟨x, t.NoRow, v, _, _, rfl, T.x_NoRow.cls, T.na_row, upd_same .., fun dx h1 h2 => ⟨rfl, some dx, upd_same .., ?_⟩⟩⟩
      have hdx : H' dx = none := by rw [upd_ne h2] at h1; exact h1
      refine q2 hw x dx _ (fun b u e => ?_) (hH.free hx) (hH.free hdx) h2 (upd_same ..) ?_
      · have e' := hH b u e
        have n1 : b ≠ x := fun z => by rw [z, hx] at e'; cases e'
        have n2 : b ≠ dx := fun z => by rw [z, hdx] at e'; cases e'
        rw [upd_ne n1, upd_ne n1, upd_ne n2, upd_ne n1]; exact e'
      · rw [upd_ne h2, upd_ne h2, upd_same]
def sp_told (K : PySem.W.Frag) : Sp := fun vs H Q _ => ∃ v d, vs = [v] ∧ Rep K H v d ∧ (∀ x, d = .str x → x.length < sizeLine) ∧
  (∀ x H', d = .str x → wrD d = true → Same H H' → Q (.int (readN x)) H') ∧
  (wrD d = false → ∀ p H', Same H H' → H' p = some (.tup [.str "refused", v, .bl true, .bl true]) → Q (.ref p) H')
theorem ok_l_told (T : Txt K mg t) : FnOk P w K mg base CX0 4 t.l_told t.fd_l_told ["_law_thing"] (sp_told K) := by
  refine T.f_l_told.fn.ok sc_l_told (fun vs H Q E h => ?_) (fun cdv A outer s H vs Q E hr h => ?_)
  · obtain ⟨v, d, rfl, _⟩ := h; rfl
  · obtain ⟨v, d, rfl, hd, hz, q1, q2⟩ := h
    refine ⟨_, (pss_cons (ps_set (i := 1) sc_l_told.nd rfl (Or.inl rfl) pe_non)
      (pss_cons (ps_tryA (i := 1) (ok_number_of T) (hr.mono (by decide)) T.f_number_of.bd rfl rfl sc_l_told.nd rfl rfl rfl T.f_number_of.mg T.f_number_of.kp (pa_cons (pv 0) pa_nil)
          (ph_hit (i := 2) sc_l_told.nd rfl rfl rfl T.x_NoRow.mg T.x_NoRow.get.mr T.x_NoRow.get.be (fun x => pss_one (ps_set (i := 1) sc_l_told.nd rfl (Or.inl rfl) (pe_tup (pa_cons pe_str (pa_cons (pe_xgetK (K := K) rfl (pv 2) rfl) (pa_cons (pe_callB (call_isiXK (K := K) rfl) (by rfl) T.b_isinstance boot_isinstance' (pa_cons (pv 2) (pa_cons (pe_glob (v := .ref t.NetError) rfl T.m_NetError rfl) pa_nil))) (pa_cons (pe_callB (call_isiXTK (K := K) rfl) (by rfl) T.b_isinstance boot_isinstance' (pa_cons (pv 2) (pa_cons (pe_bltn (v := .ty "ValueError") rfl T.b_ValueError boot_ty_ValueError rfl) pa_nil))) pa_nil))))))) ph_nil))
      (pss_one (ps_ret (pv 1))))), ?_⟩
    refine ⟨_, rfl, v, d, rfl, hd, hz, (fun x H' e1 e2 hS => ⟨_, rfl, q1 x H' e1 e2 hS⟩), (fun hw x dx H' hS hx hdx hne e1 e2 => ?_)⟩
    refine ⟨x, t.NoRow, rfl, e1, _, T.x_NoRow.get.mr, (fun _ => ?_), (fun z => absurd z (by simp))⟩
    refine ⟨_, rfl, x, t.NoRow, _, dx, _, v, rfl, T.x_NoRow.get, T.na_row, e1, e2, hne, rfl, ?_⟩
    refine ⟨_, rfl, x, t.NoRow, _, _, t.NetError, true, rfl, T.x_NoRow.get, e1, T.k_NE, ?_⟩
    refine ⟨_, rfl, x, t.NoRow, _, _, "ValueError", true, rfl, T.x_NoRow.get, e1, T.k_VE, ?_⟩
    refine ⟨(by show 4 ≤ sizeLine; decide), fun p hp => ⟨_, rfl, q2 hw p _ (hS.upd (hS.free hp)) (upd_same ..)⟩⟩
end
end K01

set_option Elab.async false
set_option linter.all false
set_option maxRecDepth 100000
set_option maxHeartbeats 4000000
namespace K01
open PySem L2 PySem.Spec PyProof.Rows
section
variable {P : Program} {w : World} {K : PySem.W.Frag} {mg : Str → Option Value} {base : Heap} {t : Adr}
/-! ### the law's own looks -/
def sp_same (K : PySem.W.Frag) : Sp := fun vs H Q _ => ∃ x y, vs = [x, y] ∧ ((∃ b, x = .bl b ∧ y = .bl b) ∨ (∃ n, x = .int n ∧ y = .int n) ∨ (∃ a b d d', x = .ref a ∧ y = .ref b ∧ Rep K H x (.tup d) ∧ Rep K H y (.tup d') ∧ DEq (.tup d) (.tup d') ∧ (D.tup d).dep ≤ 8)) ∧ Q (.bl true) H
theorem ok_l_same (T : Txt K mg t) : FnOk P w K mg base CX0 1 t.l_same t.fd_l_same ["_law_found", "_law_due"] (sp_same K) := by
  refine T.f_l_same.fn.ok sc_l_same (fun vs H Q E h => ?_) (fun cdv A outer s H vs Q E hr h => ?_)
  · obtain ⟨x, y, rfl, _⟩ := h; rfl
  · obtain ⟨x, y, rfl, hc, q⟩ := h
    have hu8 : (A.deeper _).units + 8 < cLine := Nat.lt_of_le_of_lt (Nat.add_le_add_left (by decide : 8 ≤ 64) _) hr.units
    refine ⟨_, (pss_one (ps_ret (pe_and (pe_cmpR op_eq (pe_callB call_isi (by rfl) T.b_isinstance boot_isinstance' (pa_cons (pv 0) (pa_cons (pe_bltn (v := .ty "bool") rfl T.b_bool boot_ty_bool rfl) pa_nil))) (pe_callB call_isi (by rfl) T.b_isinstance boot_isinstance' (pa_cons (pv 1) (pa_cons (pe_bltn (v := .ty "bool") rfl T.b_bool boot_ty_bool rfl) pa_nil))) (nomark _)) (pe_one (pe_cmpR (OpR.or op_eq (op_eqD hu8)) (pv 0) (pv 1) (nomark _)))))), ?_⟩
    rcases hc with ⟨b, rfl, rfl⟩ | ⟨n, rfl, rfl⟩ | ⟨a, b, d, d', rfl, rfl, r1, r2, hd, hl⟩
    · refine ⟨_, rfl, _, .bl b, "bool", rfl, .bl b, rfl, _, rfl, _, .bl b, "bool", rfl, .bl b, rfl, rfl, _, rfl, iteT ⟨_, rfl, _, rfl, .inl ⟨rfl, ?_⟩⟩⟩
      simpa using q
    · refine ⟨_, rfl, _, .int n, "bool", rfl, .int n, rfl, _, rfl, _, .int n, "bool", rfl, .int n, rfl, rfl, _, rfl, iteT ⟨_, rfl, _, rfl, .inl ⟨rfl, ?_⟩⟩⟩
      simpa using q
    · exact ⟨_, rfl, _, _, "bool", rfl, r1, rfl, _, rfl, _, _, "bool", rfl, r2, rfl, rfl, _, rfl, iteT ⟨_, rfl, _, rfl, .inr ⟨a, b, _, _, rfl, rfl, r1, r2, hd, hl, q⟩⟩⟩
def sp_lname : Sp := fun vs H Q _ => ∃ x, vs = [.str x] ∧ x.length < sizeLine ∧ ∀ H', Same H H' → Q (.bl (nameD (.str x))) H'
theorem ok_l_is_name (T : Txt K mg t) : FnOk P w K mg base CX0 1 t.l_is_name t.fd_l_is_name ["_law_text_here"] sp_lname := by
  refine T.f_l_is_name.fn.ok sc_l_is_name (fun vs H Q E h => ?_) (fun cdv A outer s H vs Q E hr h => ?_)
  · obtain ⟨x, rfl, _⟩ := h; rfl
  · obtain ⟨x, rfl, hx, q⟩ := h
    have hu1 : (A.deeper _).units < cLine := Nat.lt_of_succ_lt (hu_of hr)
    rw [name_out] at q
    refine ⟨_, (pss_cons (ps_if (PW.pt (pw_or (pt_cmpR op_lt (pe_callB call_len (by rfl) T.b_len boot_len' (pa_cons (pv 0) pa_nil)) pe_int (nomark _)) (pw_or1 (pt_cmpR op_gt (pe_callB call_len (by rfl) T.b_len boot_len' (pa_cons (pv 0) pa_nil)) pe_int (nomark _)))))
        (pss_one (ps_ret pe_bl))
        pss_nil)
      (pss_one (ps_ret (pe_cmpR (op_eq0 hu1) (pe_comp ["_law_sign"] [] rfl (pi_str (pv 0)) (fun _ _ _ _ _ => (pg_name (i := 0) (show (["_law_sign"] : List Str).Nodup by decide +kernel) rfl (Or.inl rfl))) (fun _ _ _ _ _ => (pif_one (pt_not (pt_chain op_le_str op_le_str pe_str (pv 0) pe_str)))) (fun _ _ _ _ _ => (pv 0)) trivial (hfr := by show ∀ y ∈ (_ : List (Str × NameKind)), y.2 = NameKind.free → (defScope s_l_is_name).names.lookup y.1 = some NameKind.cell ∨ (defScope s_l_is_name).names.lookup y.1 = some NameKind.free; decide +kernel)) (pe_lst pa_nil) (nomark _))))), ?_⟩
    refine ⟨_, rfl, .str x, x.length, rfl, ⟨Nat.le_of_lt hx, rfl⟩, _, _, rfl, rfl, _, rfl, ?_⟩
    refine iteD (fun h1 => ?_) (fun h1 => ⟨_, rfl, .str x, x.length, rfl, ⟨Nat.le_of_lt hx, rfl⟩, _, _, rfl, rfl, _, rfl, ?_⟩)
    · rw [decide_eq_false (by omega : ¬ 1 ≤ x.length)] at q
      exact iteT (q _ (Same.refl _))
    · rw [decide_eq_true (by omega : 1 ≤ x.length)] at q
      refine iteD (fun h2 => ?_) (fun h2 => ?_)
      · rw [decide_eq_false (by omega : ¬ x.length ≤ 8)] at q
        exact q _ (Same.refl _)
      · rw [decide_eq_true (by omega : x.length ≤ 8)] at q
        refine ⟨_, rfl, x, rfl, ?_⟩
        refine comp_inv x.length (fun i ys H' => H' = H ∧ ys = outV 97 122 x i) ⟨rfl, rfl⟩ (fun i ys H' p => ?_) (fun i ys H' hi p => ?_) (fun ys H' p => ?_)
        · rw [p.2]
          exact Nat.lt_of_le_of_lt outV_len hx
        · obtain ⟨rfl, rfl⟩ := p
          refine ⟨hi, ?_⟩
          rintro v H2 ⟨rfl, c, hc, rfl⟩
          refine ⟨_, rfl, _, _, rfl, rfl, _, rfl, iteB (fun k1 => ⟨_, _, rfl, rfl, _, rfl, iteB (fun k2 => ?_) (fun k2 => ?_)⟩) (fun k1 => ⟨_, rfl, ?_⟩)⟩
          · refine ⟨_, rfl, nxC hi ⟨rfl, ?_⟩⟩
            rw [Bool.not_eq_true', ge_one c_z, decide_eq_false_iff_not] at k2
            exact (outV_out hc (fun z => k2 z.2)).symm
          · refine nxC hi ⟨rfl, ?_⟩
            rw [le_one c_a, decide_eq_true_eq] at k1
            rw [Bool.not_eq_false', ge_one c_z, decide_eq_true_eq] at k2
            exact (outV_in hc k1 k2).symm
          · refine iteT ⟨_, rfl, nxC hi ⟨rfl, ?_⟩⟩
            rw [le_one c_a, decide_eq_false_iff_not] at k1
            exact (outV_out hc (fun z => k1 z.1)).symm
        · obtain ⟨rfl, rfl⟩ := p
          refine ⟨Nat.le_refl _, fun p hp => ⟨by show 0 ≤ sizeLine; exact Nat.zero_le _, fun p2 hp2 => ⟨p, p2, outV 97 122 x x.length, rfl, rfl, .inl (.inl ?_), .inl (.inl (upd_same ..)), ?_⟩⟩⟩
          · have n : p ≠ p2 := fun z => by rw [← z, upd_same] at hp2; cases hp2
            rw [upd_ne n, upd_same]
          · have n : p ≠ p2 := fun z => by rw [← z, upd_same] at hp2; cases hp2
            rw [outV_all]
            exact q _ ((Same.updN hp).trans (Same.updN hp2))
def sp_read : Sp := fun vs H Q _ => ∃ x, vs = [.str x] ∧ x.length < sizeLine ∧ (wrD (.str x) = true → ∀ H', Same H H' → Q (.int (readN x)) H') ∧ (wrD (.str x) = false → ∀ H', Same H H' → Q .non H')
theorem ok_l_read (T : Txt K mg t) : FnOk P w K mg base CX0 1 t.l_read t.fd_l_read ["_law_text_here"] sp_read := by
  refine T.f_l_read.fn.ok sc_l_read (fun vs H Q E h => ?_) (fun cdv A outer s H vs Q E hr h => ?_)
  · obtain ⟨x, rfl, _⟩ := h; rfl
  · obtain ⟨x, rfl, hx, q1, q2⟩ := h
    have hu1 : (A.deeper _).units < cLine := Nat.lt_of_succ_lt (hu_of hr)
    refine ⟨_, (pss_cons (ps_if (PW.pt (pw_or (pt_cmpR op_lt (pe_callB call_len (by rfl) T.b_len boot_len' (pa_cons (pv 0) pa_nil)) pe_int (nomark _)) (pw_or (pt_cmpR op_gt (pe_callB call_len (by rfl) T.b_len boot_len' (pa_cons (pv 0) pa_nil)) pe_int (nomark _)) (pw_or1 (PW.pt (pw_and (pt_cmpR op_eq (pe_ix ix_str (pv 0) pe_int (fun _ _ => rfl)) pe_str (nomark _)) (pw_and1 (pt_cmpR op_gt (pe_callB call_len (by rfl) T.b_len boot_len' (pa_cons (pv 0) pa_nil)) pe_int (nomark _)))))))))
        (pss_one (ps_ret pe_non))
        pss_nil)
      (pss_cons (ps_if (pt_cmpR (op_ne0 hu1) (pe_comp ["_law_sign"] [] rfl (pi_str (pv 0)) (fun _ _ _ _ _ => (pg_name (i := 0) (show (["_law_sign"] : List Str).Nodup by decide +kernel) rfl (Or.inl rfl))) (fun _ _ _ _ _ => (pif_one (pt_not (pt_chain op_le_str op_le_str pe_str (pv 0) pe_str)))) (fun _ _ _ _ _ => (pv 0)) trivial (hfr := by show ∀ y ∈ (_ : List (Str × NameKind)), y.2 = NameKind.free → (defScope s_l_read).names.lookup y.1 = some NameKind.cell ∨ (defScope s_l_read).names.lookup y.1 = some NameKind.free; decide +kernel)) (pe_lst pa_nil) (nomark _))
        (pss_one (ps_ret pe_non))
        pss_nil)
      (pss_one (ps_ret (pe_callTy call_int_str (by rfl) T.b_int boot_ty_int (pa_cons (pv 0) pa_nil)))))), ?_⟩
    refine ⟨_, rfl, .str x, x.length, rfl, ⟨Nat.le_of_lt hx, rfl⟩, _, _, rfl, rfl, _, rfl, ?_⟩
    refine iteD (fun h1 => iteT (q2 (wr_short (by omega)) _ (Same.refl _))) (fun h1 => ⟨_, rfl, .str x, x.length, rfl, ⟨Nat.le_of_lt hx, rfl⟩, _, _, rfl, rfl, _, rfl, ?_⟩)
    refine iteD (fun h2 => iteT (q2 (wr_long (by omega)) _ (Same.refl _))) (fun h2 => ?_)
    obtain ⟨c, hc⟩ : ∃ c, (cs x)[0]? = some c := ⟨_, List.getElem?_eq_getElem (by rw [cs_len]; omega)⟩
    refine ⟨_, rfl, _, _, c, rfl, rfl, Nat.le_of_lt hx, atI_nat hc, rfl, _, rfl, iteB (fun k => ⟨_, rfl, .str x, x.length, rfl, ⟨Nat.le_of_lt hx, rfl⟩, _, _, rfl, rfl, _, rfl, iteD (fun h3 => ?_) (fun h3 => ?_)⟩) (fun k => ?_)⟩
    · have e : c = 48 := by
        have e := of_decide_eq_true k
        injection e with e
        have := congrArg (fun z : Str => z.cps.toList) e
        rw [c_0] at this
        simpa using this
      exact q2 (wr_lead (e ▸ hc) (by omega)) _ (Same.refl _)
    · have hz : c = 48 → x.length = 1 := fun _ => by omega
      refine ⟨_, rfl, x, rfl, ?_⟩
      refine comp_inv x.length (fun i ys H' => H' = H ∧ ys = outV 48 57 x i) ⟨rfl, rfl⟩ (fun i ys H' p => ?_) (fun i ys H' hi p => ?_) (fun ys H' p => ?_)
      · rw [p.2]
        exact Nat.lt_of_le_of_lt outV_len hx
      · obtain ⟨rfl, rfl⟩ := p
        refine ⟨hi, ?_⟩
        rintro v H2 ⟨rfl, c, hc, rfl⟩
        refine ⟨_, rfl, _, _, rfl, rfl, _, rfl, iteB (fun k1 => ⟨_, _, rfl, rfl, _, rfl, iteB (fun k2 => ?_) (fun k2 => ?_)⟩) (fun k1 => ⟨_, rfl, ?_⟩)⟩
        · refine ⟨_, rfl, nxC hi ⟨rfl, ?_⟩⟩
          rw [Bool.not_eq_true', ge_one c_9, decide_eq_false_iff_not] at k2
          exact (outV_out hc (fun z => k2 z.2)).symm
        · refine nxC hi ⟨rfl, ?_⟩
          rw [le_one c_0, decide_eq_true_eq] at k1
          rw [Bool.not_eq_false', ge_one c_9, decide_eq_true_eq] at k2
          exact (outV_in hc k1 k2).symm
        · refine iteT ⟨_, rfl, nxC hi ⟨rfl, ?_⟩⟩
          rw [le_one c_0, decide_eq_false_iff_not] at k1
          exact (outV_out hc (fun z => k1 z.1)).symm
      · obtain ⟨rfl, rfl⟩ := p
        refine ⟨Nat.le_refl _, fun p hp => ⟨by show 0 ≤ sizeLine; exact Nat.zero_le _, fun p2 hp2 => ⟨p, p2, outV 48 57 x x.length, rfl, rfl, .inl (.inl ?_), .inl (.inl (upd_same ..)), _, rfl, iteB (fun k2 => ?_) (fun k2 => ?_)⟩⟩⟩
        · have n : p ≠ p2 := fun z => by rw [← z, upd_same] at hp2; cases hp2
          rw [upd_ne n, upd_same]
        · rw [Bool.not_eq_true', outV_all] at k2
          exact q2 (wr_other k2) _ ((Same.updN hp).trans (Same.updN hp2))
        · rw [Bool.not_eq_false', outV_all] at k2
          have hw := wr_yes (by omega) (by omega) hc hz k2
          obtain ⟨e1, e2⟩ := wr_reads hw
          exact ⟨_, rfl, x, _, rfl, e1, e2, q1 hw _ ((Same.updN hp).trans (Same.updN hp2))⟩
    · have hz : c = 48 → x.length = 1 := fun e => absurd (of_decide_eq_false k) (fun n => n (by rw [e]; exact congrArg V.str (by decide +kernel)))
      refine iteF ⟨_, rfl, x, rfl, ?_⟩
      refine comp_inv x.length (fun i ys H' => H' = H ∧ ys = outV 48 57 x i) ⟨rfl, rfl⟩ (fun i ys H' p => ?_) (fun i ys H' hi p => ?_) (fun ys H' p => ?_)
      · rw [p.2]
        exact Nat.lt_of_le_of_lt outV_len hx
      · obtain ⟨rfl, rfl⟩ := p
        refine ⟨hi, ?_⟩
        rintro v H2 ⟨rfl, c, hc, rfl⟩
        refine ⟨_, rfl, _, _, rfl, rfl, _, rfl, iteB (fun k1 => ⟨_, _, rfl, rfl, _, rfl, iteB (fun k2 => ?_) (fun k2 => ?_)⟩) (fun k1 => ⟨_, rfl, ?_⟩)⟩
        · refine ⟨_, rfl, nxC hi ⟨rfl, ?_⟩⟩
          rw [Bool.not_eq_true', ge_one c_9, decide_eq_false_iff_not] at k2
          exact (outV_out hc (fun z => k2 z.2)).symm
        · refine nxC hi ⟨rfl, ?_⟩
          rw [le_one c_0, decide_eq_true_eq] at k1
          rw [Bool.not_eq_false', ge_one c_9, decide_eq_true_eq] at k2
          exact (outV_in hc k1 k2).symm
        · refine iteT ⟨_, rfl, nxC hi ⟨rfl, ?_⟩⟩
          rw [le_one c_0, decide_eq_false_iff_not] at k1
          exact (outV_out hc (fun z => k1 z.1)).symm
      · obtain ⟨rfl, rfl⟩ := p
        refine ⟨Nat.le_refl _, fun p hp => ⟨by show 0 ≤ sizeLine; exact Nat.zero_le _, fun p2 hp2 => ⟨p, p2, outV 48 57 x x.length, rfl, rfl, .inl (.inl ?_), .inl (.inl (upd_same ..)), _, rfl, iteB (fun k2 => ?_) (fun k2 => ?_)⟩⟩⟩
        · have n : p ≠ p2 := fun z => by rw [← z, upd_same] at hp2; cases hp2
          rw [upd_ne n, upd_same]
        · rw [Bool.not_eq_true', outV_all] at k2
          exact q2 (wr_other k2) _ ((Same.updN hp).trans (Same.updN hp2))
        · rw [Bool.not_eq_false', outV_all] at k2
          have hw := wr_yes (by omega) (by omega) hc hz k2
          obtain ⟨e1, e2⟩ := wr_reads hw
          exact ⟨_, rfl, x, _, rfl, e1, e2, q1 hw _ ((Same.updN hp).trans (Same.updN hp2))⟩
def sp_lwhole : Sp := fun vs H Q _ => ∃ c : Int, vs = [.int c] ∧ ∀ n H', Same H H' → Q (.int n) H'
theorem ok_l_whole (T : Txt K mg t) : FnOk P w K mg base CX0 1 t.l_whole t.fd_l_whole ["_law_cell"] sp_lwhole := by
  refine T.f_l_whole.fn.ok sc_l_whole (fun vs H Q E h => ?_) (fun cdv A outer s H vs Q E hr h => ?_)
  · obtain ⟨x, rfl, _⟩ := h; rfl
  · obtain ⟨c, rfl, q⟩ := h
    have p40 : (10 : Int) ^ 40 = 10000000000000000000000000000000000000000 := by decide +kernel
    have p9 : (10 : Int) ^ 9 = 1000000000 := by decide +kernel
    have e1 := Int.emod_nonneg c (show (4 : Int) ≠ 0 by decide)
    have e2 := Int.emod_lt_of_pos c (show (0 : Int) < 4 by decide)
    refine ⟨_, (pss_cons (ps_set (i := 1) sc_l_whole.nd rfl (Or.inl rfl) (pe_op op_sub (pe_op op_mod (pe_op op_fdiv (pv 0) pe_int) (pe_op op_add (pe_op op_mul pe_int (pe_op op_pow pe_int pe_int)) pe_int)) (pe_op op_pow pe_int pe_int)))
      (pss_one (ps_ret (pe_ix ix_list (pe_lst (pa_cons (pe_op op_sub (pe_op op_mod (pe_op op_fdiv (pv 0) pe_int) pe_int) pe_int) (pa_cons (pe_op op_sub (pe_op op_add (pe_op op_pow pe_int pe_int) (pe_op op_mod (pe_op op_fdiv (pv 0) pe_int) pe_int)) pe_int) (pa_cons (pv 1) (pa_cons (pe_op op_mod (pe_op op_fdiv (pv 0) pe_int) (pe_op op_pow pe_int pe_int)) pa_nil))))) (pe_op op_mod (pv 0) pe_int) (fun _ _ => rfl))))), ?_⟩
    refine ⟨_, rfl, _, _, rfl, rfl, ⟨by decide, by decide⟩, _, _, rfl, rfl, ⟨by decide, by decide, by decide⟩, _, _, rfl, rfl, .inl ⟨by decide, by decide⟩, _, _, rfl, rfl, _, _, rfl, rfl, (by show (0 : Int) < 2 * 10 ^ Int.toNat 40 + 1; decide +kernel), _, _, rfl, rfl, ⟨by decide, by decide, by decide⟩, _, _, rfl, rfl, ?_⟩
    refine ⟨_, rfl, _, _, rfl, rfl, ⟨by decide, by decide⟩, _, _, rfl, rfl, (by show (0 : Int) < 5; decide), _, _, rfl, rfl, ?_⟩
    refine ⟨_, _, rfl, rfl, ⟨by decide, by decide, by decide⟩, _, rfl, _, _, rfl, rfl, ⟨by decide, by decide⟩, _, _, rfl, rfl, (by show (0 : Int) < 5; decide), _, _, rfl, rfl, _, _, rfl, rfl, ?_⟩
    refine ⟨_, rfl, _, rfl, _, _, rfl, rfl, ⟨by decide, by decide⟩, _, _, rfl, rfl, ⟨by decide, by decide, by decide⟩, _, _, rfl, rfl, (by show (0 : Int) < 10 ^ Int.toNat 9; decide +kernel), ?_⟩
    refine ⟨(by show 4 ≤ sizeLine; decide), fun p hp => ⟨_, rfl, _, _, rfl, rfl, (by show (0 : Int) < 4; decide), ?_⟩⟩
    obtain ⟨v, hv, ha⟩ := pickN (xs := [V.int (c / 4 % 5 - 2), V.int (10 ^ Int.toNat 9 + c / 4 % 5 - 2), V.int (c / 4 % (2 * 10 ^ Int.toNat 40 + 1) - 10 ^ Int.toNat 40), V.int (c / 4 % 10 ^ Int.toNat 9)]) e1 e2
    refine ⟨p, _, _, v, rfl, rfl, SqL.of upd_same, ha, ?_⟩
    have : ∃ n, v = V.int n := by
      simp only [List.mem_cons, List.not_mem_nil, or_false] at hv
      rcases hv with rfl | rfl | rfl | rfl <;> exact ⟨_, rfl⟩
    obtain ⟨n, rfl⟩ := this
    exact q n _ (Same.updN hp)
end
end K01

set_option Elab.async false
set_option linter.all false
set_option maxRecDepth 100000
set_option maxHeartbeats 4000000
namespace K01
open PySem L2 PySem.Spec PyProof.Rows
section
variable {P : Program} {w : World} {K : PySem.W.Frag} {mg : Str → Option Value} {base : Heap} {t : Adr}
/-! ### the texts that are drawn -/
def sp_text : Sp := fun vs H Q _ => ∃ c : Int, vs = [.int c] ∧ ∀ x H', Same H H' → x.length ≤ 30 → Q (.str x) H'
theorem ok_l_text (T : Txt K mg t) : FnOk P w K mg base CX0 2 t.l_text t.fd_l_text ["_law_cell"] sp_text := by
  refine T.f_l_text.fn.ok sc_l_text (fun vs H Q E h => ?_) (fun cdv A outer s H vs Q E hr h => ?_)
  · obtain ⟨x, rfl, _⟩ := h; rfl
  · obtain ⟨c, rfl, q⟩ := h
    have e1 := Int.emod_nonneg c (show (11 : Int) ≠ 0 by decide)
    have e2 := Int.emod_lt_of_pos c (show (0 : Int) < 11 by decide)
    refine ⟨_, (pss_cons (ps_set (i := 1) sc_l_text.nd rfl (Or.inr rfl) pe_str)
      (pss_cons (ps_set (i := 2) sc_l_text.nd rfl (Or.inl rfl) (pe_bm PySem.F.plainAttrs_str PySem.F.slot_str_join PySem.F.type_str_join mt_join pe_str (pa_cons (pe_comp ["_law_k"] [1, 0] rfl (pi_range1 rfl T.b_range (pa_cons (pe_op op_mod (pv 0) pe_int) pa_nil)) (fun _ _ _ _ _ => (pg_name (i := 0) (show (["_law_k", "_law_letters", "_law_cell"] : List Str).Nodup by decide +kernel) rfl (Or.inl rfl))) (fun _ _ _ _ _ => pif_nil) (fun _ _ _ _ _ => (pe_ix ix_str (pv 1) (pe_op op_mod (pe_call (ok_l_mix T) (hr.mono (by decide)) rfl T.f_l_mix.mg T.f_l_mix.kp T.f_l_mix.bd .nil pass0 (pa_cons (pv 2) (pa_cons (pv 0) pa_nil))) pe_int) (fun _ _ => rfl))) ⟨⟨_, rfl, rfl, .inl rfl⟩, ⟨⟨_, rfl, rfl, .inl rfl⟩, trivial⟩⟩ (hfr := by show ∀ y ∈ (_ : List (Str × NameKind)), y.2 = NameKind.free → (defScope s_l_text).names.lookup y.1 = some NameKind.cell ∨ (defScope s_l_text).names.lookup y.1 = some NameKind.free; decide +kernel)) pa_nil)))
      (pss_cons (ps_set (i := 3) sc_l_text.nd rfl (Or.inl rfl) pe_str)
      (pss_cons (ps_set (i := 4) sc_l_text.nd rfl (Or.inl rfl) (pe_op op_mod (pe_call (ok_l_mix T) (hr.mono (by decide)) rfl T.f_l_mix.mg T.f_l_mix.kp T.f_l_mix.bd .nil pass0 (pa_cons (pv 0) (pa_cons pe_int pa_nil))) (pe_op op_add (pe_callB call_len (by rfl) T.b_len boot_len' (pa_cons (pv 2) pa_nil)) pe_int)))
      (pss_cons (ps_if (pt_cmpR op_eq (pe_op op_mod (pe_op op_fdiv (pv 0) pe_int) pe_int) pe_int (nomark _))
        (pss_one (ps_ret (pe_op op_add_str (pe_op op_add_str (pe_slice sl_str (pv 2) po_none (po_some (pv 4))) (pe_ix ix_str (pv 3) (pe_op op_mod (pe_op op_fdiv (pv 0) pe_int) (pe_callB call_len (by rfl) T.b_len boot_len' (pa_cons (pv 3) pa_nil))) (fun _ _ => rfl))) (pe_slice sl_str (pv 2) (po_some (pe_op op_add (pv 4) pe_int)) po_none))))
        pss_nil)
      (pss_one (ps_ret (pv 2)))))))), ?_⟩
    refine ⟨rfl, ?_⟩
    refine ⟨_, rfl, _, _, rfl, rfl, (by show (0 : Int) < 11; decide), c % 11, rfl, by omega, by omega, ?_⟩
    obtain ⟨m, hm⟩ := Int.eq_ofNat_of_zero_le e1
    rw [hm] at e2 ⊢
    refine comp_inv m (fun i ys H' => i ≤ m ∧ H' = H ∧ ∃ ls : List Nat, ys = ls.map (fun c => V.str ⟨#[c]⟩) ∧ ls.length = i) ⟨Nat.zero_le _, rfl, [], rfl, rfl⟩ (fun i ys H' p => ?_) (fun i ys H' hi p => ?_) (fun ys H' p => ?_)
    · obtain ⟨h7, _, ls, rfl, hl⟩ := p
      rw [List.length_map, hl]
      exact small1000 (by omega)
    · obtain ⟨_, rfl, ls, rfl, hl⟩ := p
      refine ⟨hi, ?_⟩
      rintro v H2 ⟨rfl, rfl⟩
      simp only [gName, tYes, ↓reduceIte, Int.zero_add]
      refine ⟨_, rfl, _, rfl, _, rfl, c, i, rfl, by omega, by omega, _, _, rfl, rfl, (by show (0 : Int) < 26; decide), _, _, _, rfl, rfl, (by decide +kernel), letter_at (Int.emod_nonneg _ (by decide)) (Int.emod_lt_of_pos _ (by decide)), nxC hi ⟨hi, rfl, ls ++ [97 + (mixF c i % 26).toNat], ?_, ?_⟩⟩
      · rw [List.map_append]; rfl
      · simp [hl]
    · obtain ⟨_, rfl, ls, rfl, hl⟩ := p
      refine ⟨Nat.le_refl _, fun p0 hp0 => ⟨_, p0, ls.map (fun c => ⟨#[c]⟩), rfl, rfl, .inl (.inl ?_), ?_, ?_⟩⟩
      · rw [upd_same, List.map_map]; rfl
      · have e1 : (ls.map (fun c => (⟨#[c]⟩ : Str))).map (·.length) = List.replicate m 1 := by
          rw [List.map_map, List.eq_replicate_iff]
          refine ⟨by rw [List.length_map, hl], fun b hb => ?_⟩
          obtain ⟨d, _, rfl⟩ := List.mem_map.mp hb
          rfl
        rw [e1, List.length_map, hl]
        rw [show (Str.ofString "").length = 0 from rfl]
        simp only [List.sum_replicate_nat, Nat.mul_zero, Nat.mul_one, Nat.add_zero]
        omega
      · have hB := join_signs ls
        generalize joinS "" (ls.map fun c => ⟨#[c]⟩) = B at hB
        have hbl : B.length = m := by rw [← cs_len, hB, hl]
        have hbs : B.length ≤ sizeLine := sz (by omega)
        have hS1 := Same.updN (o := .lst (ls.map fun c => V.str ⟨#[c]⟩)) hp0
        refine ⟨_, rfl, c, 20, rfl, by decide, by decide, _, rfl, .str B, B.length, rfl, ⟨hbs, rfl⟩, _, _, rfl, rfl, _, _, rfl, rfl, (by show (0 : Int) < _; omega), ?_⟩
        refine ⟨_, rfl, _, _, rfl, rfl, ⟨by decide, by decide⟩, _, _, rfl, rfl, (by show (0 : Int) < 2; decide), rfl, _, rfl, iteD (fun h1 => ?_) (fun h1 => ?_)⟩
        · have b1 := Int.emod_nonneg (c / 22) (show (14 : Int) ≠ 0 by decide)
          have b2 := Int.emod_lt_of_pos (c / 22) (show (0 : Int) < 14 by decide)
          obtain ⟨d, _, hd⟩ := pickN (xs := cs (Str.ofString "AZ09 -_.:,abz\n")) b1 (by rw [show (cs (Str.ofString "AZ09 -_.:,abz\n")).length = 14 by decide +kernel]; exact b2)
          have l1 := cutS_len B none (some (mixF c 20 % (B.length + 1)))
          have l2 := cutS_len B (some (mixF c 20 % (B.length + 1) + 1)) none
          refine ⟨_, rfl, _, rfl, _, rfl, _, rfl, hbs, _, rfl, _, rfl, _, _, rfl, rfl, ⟨by decide, by decide⟩, _, rfl, .str _, 14, rfl, ⟨by decide +kernel, by decide +kernel⟩, _, _, rfl, rfl, (by show (0 : Int) < 14; decide), _, _, d, rfl, rfl, (by decide +kernel), hd, _, _, rfl, rfl, (by show _ + 1 ≤ sizeLine; exact sz (by omega)), ?_⟩
          refine ⟨_, rfl, _, rfl, _, _, rfl, rfl, _, rfl, _, rfl, hbs, _, _, rfl, rfl, ?_, q _ _ hS1 ?_⟩
          · rw [str_len]
            show _ + 1 + _ ≤ sizeLine
            exact sz (by omega)
          · rw [str_len, str_len]
            show _ + 1 + _ ≤ 30
            omega
        · exact ⟨_, rfl, q B _ hS1 (by omega)⟩
def sp_ntext : Sp := fun vs H Q _ => ∃ c : Int, vs = [.int c] ∧ ∀ x H', Same H H' → x.length ≤ 30 → Q (.str x) H'
theorem ok_l_number_text (T : Txt K mg t) : FnOk P w K mg base CX0 2 t.l_number_text t.fd_l_number_text ["_law_cell"] sp_ntext := by
  refine T.f_l_number_text.fn.ok sc_l_number_text (fun vs H Q E h => ?_) (fun cdv A outer s H vs Q E hr h => ?_)
  · obtain ⟨x, rfl, _⟩ := h; rfl
  · obtain ⟨c, rfl, q⟩ := h
    refine ⟨_, (pss_cons (ps_set (i := 1) sc_l_number_text.nd rfl (Or.inl rfl) (pe_callTy call_str_int (by rfl) T.b_str boot_ty_str (pa_cons (pe_op op_mod (pe_op op_fdiv (pv 0) pe_int) (pe_ix ix_list (pe_lst (pa_cons pe_int (pa_cons pe_int pa_nil))) (pe_op op_mod (pv 0) pe_int) (fun _ _ => rfl))) pa_nil)))
      (pss_cons (ps_if (pt_cmpR op_eq (pe_op op_mod (pe_op op_fdiv (pv 0) pe_int) pe_int) pe_int (nomark _))
        (pss_one (ps_set (i := 1) sc_l_number_text.nd rfl (Or.inl rfl) (pe_callTy call_str_int (by rfl) T.b_str boot_ty_str (pa_cons (pe_op op_mod (pe_op op_fdiv (pv 0) pe_int) (pe_op op_pow pe_int pe_int)) pa_nil))))
        pss_nil)
      (pss_cons (ps_set (i := 2) sc_l_number_text.nd rfl (Or.inl rfl) pe_str)
      (pss_cons (ps_set (i := 3) sc_l_number_text.nd rfl (Or.inl rfl) (pe_op op_mod (pe_call (ok_l_mix T) (hr.mono (by decide)) rfl T.f_l_mix.mg T.f_l_mix.kp T.f_l_mix.bd .nil pass0 (pa_cons (pv 0) (pa_cons pe_int pa_nil))) (pe_op op_add (pe_callB call_len (by rfl) T.b_len boot_len' (pa_cons (pv 1) pa_nil)) pe_int)))
      (pss_cons (ps_set (i := 4) sc_l_number_text.nd rfl (Or.inl rfl) (pe_ix ix_str (pv 2) (pe_op op_mod (pe_call (ok_l_mix T) (hr.mono (by decide)) rfl T.f_l_mix.mg T.f_l_mix.kp T.f_l_mix.bd .nil pass0 (pa_cons (pv 0) (pa_cons pe_int pa_nil))) (pe_callB call_len (by rfl) T.b_len boot_len' (pa_cons (pv 2) pa_nil))) (fun _ _ => rfl)))
      (pss_cons (ps_if (pt_cmpR op_eq (pe_op op_mod (pe_op op_fdiv (pv 0) pe_int) pe_int) pe_int (nomark _))
        (pss_one (ps_ret (pe_ix ix_list (pe_lst (pa_cons (pe_op op_add_str (pe_op op_add_str (pe_slice sl_str (pv 1) po_none (po_some (pv 3))) (pv 4)) (pe_slice sl_str (pv 1) (po_some (pv 3)) po_none)) (pa_cons (pe_op op_add_str pe_str (pv 1)) (pa_cons (pe_op op_add_str (pe_slice sl_str (pv 1) po_none (po_some (pv 3))) (pe_slice sl_str (pv 1) (po_some (pe_op op_add (pv 3) pe_int)) po_none)) pa_nil)))) (pe_op op_mod (pe_call (ok_l_mix T) (hr.mono (by decide)) rfl T.f_l_mix.mg T.f_l_mix.kp T.f_l_mix.bd .nil pass0 (pa_cons (pv 0) (pa_cons pe_int pa_nil))) pe_int) (fun _ _ => rfl))))
        pss_nil)
      (pss_one (ps_ret (pv 1))))))))), ?_⟩
    obtain ⟨d, _, hd⟩ := pickN (xs := cs (Str.ofString "+- .,_x0\n")) (Int.emod_nonneg (mixF c 31) (show (9 : Int) ≠ 0 by decide)) (by rw [show (cs (Str.ofString "+- .,_x0\n")).length = 9 by decide +kernel]; exact Int.emod_lt_of_pos (mixF c 31) (show (0 : Int) < 9 by decide))
    obtain ⟨v, hv, ha⟩ := pick2b (P := fun v => v = 10 ∨ v = 100) (x := 10) (y := 100) (c := c) (.inl rfl) (.inr rfl)
    have v0 : 0 < v := by omega
    have m1 := Int.emod_nonneg (c / 8) (show v ≠ 0 by omega)
    have m2 := Int.emod_lt_of_pos (c / 8) v0
    have k1 := Int.emod_nonneg (c / 8) (show (10 : Int) ^ Int.toNat 12 ≠ 0 by decide +kernel)
    have k2 := Int.emod_lt_of_pos (c / 8) (show (0 : Int) < 10 ^ Int.toNat 12 by decide +kernel)
    have hl1 : (Str.ofString (toString (c / 8 % v))).length ≤ 12 := toString_length_le m1 (by decide) (Int.lt_of_lt_of_le m2 (by rcases hv with e | e <;> rw [e] <;> decide +kernel))
    have hl2 : (Str.ofString (toString (c / 8 % 10 ^ Int.toNat 12))).length ≤ 12 := toString_length_le k1 (by decide) k2
    refine ⟨_, rfl, _, _, rfl, rfl, ⟨by decide, by decide⟩, (by show 2 ≤ sizeLine; decide), fun p hp => ?_⟩
    refine ⟨_, rfl, _, _, rfl, rfl, (by show (0 : Int) < 2; decide), p, _, _, _, rfl, rfl, SqL.of upd_same, ha, _, _, rfl, rfl, v0, _, rfl, log_small m1 (Int.lt_of_lt_of_le m2 (by rcases hv with e | e <;> rw [e] <;> decide +kernel)), ?_⟩
    refine ⟨_, rfl, _, _, rfl, rfl, ⟨by decide, by decide⟩, _, _, rfl, rfl, (by show (0 : Int) < 2; decide), rfl, _, rfl, iteD (fun h0 => ?_) (fun h0 => ?_)⟩
    · refine ⟨_, rfl, _, _, rfl, rfl, ⟨by decide, by decide⟩, _, _, rfl, rfl, ⟨by decide, by decide, by decide⟩, _, _, rfl, rfl, (by show (0 : Int) < 10 ^ Int.toNat 12; decide +kernel), _, rfl, log_small k1 k2, ?_⟩
      have l1 := cutS_len (Str.ofString (toString (c / 8 % 10 ^ Int.toNat 12))) none (some (mixF c 30 % ((Str.ofString (toString (c / 8 % 10 ^ Int.toNat 12))).length + 1)))
      have l2 := cutS_len (Str.ofString (toString (c / 8 % 10 ^ Int.toNat 12))) (some (mixF c 30 % ((Str.ofString (toString (c / 8 % 10 ^ Int.toNat 12))).length + 1))) none
      have l3 := cutS_len (Str.ofString (toString (c / 8 % 10 ^ Int.toNat 12))) (some (mixF c 30 % ((Str.ofString (toString (c / 8 % 10 ^ Int.toNat 12))).length + 1) + 1)) none
      have hbs : (Str.ofString (toString (c / 8 % 10 ^ Int.toNat 12))).length ≤ sizeLine := sz (by omega)
      refine ⟨_, rfl, c, 30, rfl, by decide, by decide, _, rfl, .str (Str.ofString (toString (c / 8 % 10 ^ Int.toNat 12))), (Str.ofString (toString (c / 8 % 10 ^ Int.toNat 12))).length, rfl, ⟨hbs, rfl⟩, _, _, rfl, rfl, _, _, rfl, rfl, (by show (0 : Int) < _; omega), ?_⟩
      refine ⟨_, rfl, _, rfl, c, 31, rfl, by decide, by decide, _, rfl, .str _, 9, rfl, ⟨by decide +kernel, by decide +kernel⟩, _, _, rfl, rfl, (by show (0 : Int) < 9; decide), _, _, d, rfl, rfl, (by decide +kernel), hd, ?_⟩
      refine ⟨_, rfl, _, _, rfl, rfl, ⟨by decide, by decide⟩, _, _, rfl, rfl, (by show (0 : Int) < 2; decide), rfl, _, rfl, iteD (fun h1 => ?_) (fun h1 => ⟨_, rfl, q _ _ (Same.updN hp) (by omega)⟩)⟩
      refine ⟨_, rfl, _, rfl, _, rfl, _, rfl, hbs, _, rfl, _, _, rfl, rfl, (by show _ + 1 ≤ sizeLine; exact sz (by omega)), _, rfl, _, rfl, _, rfl, _, rfl, hbs, _, _, rfl, rfl, (by rw [str_len]; show _ + 1 + _ ≤ sizeLine; exact sz (by omega)), ?_⟩
      refine ⟨_, rfl, _, _, rfl, rfl, (by show 1 + _ ≤ sizeLine; exact sz (by omega)), ?_⟩
      refine ⟨_, rfl, _, rfl, _, rfl, _, rfl, hbs, _, rfl, _, rfl, _, _, rfl, rfl, _, rfl, _, rfl, hbs, _, _, rfl, rfl, sz (by omega), ?_⟩
      refine ⟨(by show 3 ≤ sizeLine; decide), fun p3 hp3 => ⟨_, rfl, c, 32, rfl, by decide, by decide, _, _, rfl, rfl, (by show (0 : Int) < 3; decide), ?_⟩⟩
      obtain ⟨v3, hv3, ha3⟩ := pickN (xs := [V.str (cutS (Str.ofString (toString (c / 8 % 10 ^ Int.toNat 12))) none (some (mixF c 30 % ((Str.ofString (toString (c / 8 % 10 ^ Int.toNat 12))).length + 1))) ++ ⟨#[d]⟩ ++ cutS (Str.ofString (toString (c / 8 % 10 ^ Int.toNat 12))) (some (mixF c 30 % ((Str.ofString (toString (c / 8 % 10 ^ Int.toNat 12))).length + 1))) none), V.str (Str.ofString "0" ++ (Str.ofString (toString (c / 8 % 10 ^ Int.toNat 12)))), V.str (cutS (Str.ofString (toString (c / 8 % 10 ^ Int.toNat 12))) none (some (mixF c 30 % ((Str.ofString (toString (c / 8 % 10 ^ Int.toNat 12))).length + 1))) ++ cutS (Str.ofString (toString (c / 8 % 10 ^ Int.toNat 12))) (some (mixF c 30 % ((Str.ofString (toString (c / 8 % 10 ^ Int.toNat 12))).length + 1) + 1)) none)]) (Int.emod_nonneg (mixF c 32) (show (3 : Int) ≠ 0 by decide)) (Int.emod_lt_of_pos (mixF c 32) (show (0 : Int) < 3 by decide))
      refine ⟨p3, _, _, v3, rfl, rfl, SqL.of upd_same, ha3, ?_⟩
      have e3 : ∃ z : Str, v3 = V.str z ∧ z.length ≤ 30 := by
        simp only [List.mem_cons, List.not_mem_nil, or_false] at hv3
        rcases hv3 with rfl | rfl | rfl
        · exact ⟨_, rfl, by rw [str_len, str_len]; show _ + 1 + _ ≤ 30; omega⟩
        · exact ⟨_, rfl, by rw [str_len]; show 1 + _ ≤ 30; omega⟩
        · exact ⟨_, rfl, by rw [str_len]; omega⟩
      obtain ⟨z, rfl, hz⟩ := e3
      exact q z _ ((Same.updN hp).trans (Same.updN hp3)) hz
    · skip
      have l1 := cutS_len (Str.ofString (toString (c / 8 % v))) none (some (mixF c 30 % ((Str.ofString (toString (c / 8 % v))).length + 1)))
      have l2 := cutS_len (Str.ofString (toString (c / 8 % v))) (some (mixF c 30 % ((Str.ofString (toString (c / 8 % v))).length + 1))) none
      have l3 := cutS_len (Str.ofString (toString (c / 8 % v))) (some (mixF c 30 % ((Str.ofString (toString (c / 8 % v))).length + 1) + 1)) none
      have hbs : (Str.ofString (toString (c / 8 % v))).length ≤ sizeLine := sz (by omega)
      refine ⟨_, rfl, c, 30, rfl, by decide, by decide, _, rfl, .str (Str.ofString (toString (c / 8 % v))), (Str.ofString (toString (c / 8 % v))).length, rfl, ⟨hbs, rfl⟩, _, _, rfl, rfl, _, _, rfl, rfl, (by show (0 : Int) < _; omega), ?_⟩
      refine ⟨_, rfl, _, rfl, c, 31, rfl, by decide, by decide, _, rfl, .str _, 9, rfl, ⟨by decide +kernel, by decide +kernel⟩, _, _, rfl, rfl, (by show (0 : Int) < 9; decide), _, _, d, rfl, rfl, (by decide +kernel), hd, ?_⟩
      refine ⟨_, rfl, _, _, rfl, rfl, ⟨by decide, by decide⟩, _, _, rfl, rfl, (by show (0 : Int) < 2; decide), rfl, _, rfl, iteD (fun h1 => ?_) (fun h1 => ⟨_, rfl, q _ _ (Same.updN hp) (by omega)⟩)⟩
      refine ⟨_, rfl, _, rfl, _, rfl, _, rfl, hbs, _, rfl, _, _, rfl, rfl, (by show _ + 1 ≤ sizeLine; exact sz (by omega)), _, rfl, _, rfl, _, rfl, _, rfl, hbs, _, _, rfl, rfl, (by rw [str_len]; show _ + 1 + _ ≤ sizeLine; exact sz (by omega)), ?_⟩
      refine ⟨_, rfl, _, _, rfl, rfl, (by show 1 + _ ≤ sizeLine; exact sz (by omega)), ?_⟩
      refine ⟨_, rfl, _, rfl, _, rfl, _, rfl, hbs, _, rfl, _, rfl, _, _, rfl, rfl, _, rfl, _, rfl, hbs, _, _, rfl, rfl, sz (by omega), ?_⟩
      refine ⟨(by show 3 ≤ sizeLine; decide), fun p3 hp3 => ⟨_, rfl, c, 32, rfl, by decide, by decide, _, _, rfl, rfl, (by show (0 : Int) < 3; decide), ?_⟩⟩
      obtain ⟨v3, hv3, ha3⟩ := pickN (xs := [V.str (cutS (Str.ofString (toString (c / 8 % v))) none (some (mixF c 30 % ((Str.ofString (toString (c / 8 % v))).length + 1))) ++ ⟨#[d]⟩ ++ cutS (Str.ofString (toString (c / 8 % v))) (some (mixF c 30 % ((Str.ofString (toString (c / 8 % v))).length + 1))) none), V.str (Str.ofString "0" ++ (Str.ofString (toString (c / 8 % v)))), V.str (cutS (Str.ofString (toString (c / 8 % v))) none (some (mixF c 30 % ((Str.ofString (toString (c / 8 % v))).length + 1))) ++ cutS (Str.ofString (toString (c / 8 % v))) (some (mixF c 30 % ((Str.ofString (toString (c / 8 % v))).length + 1) + 1)) none)]) (Int.emod_nonneg (mixF c 32) (show (3 : Int) ≠ 0 by decide)) (Int.emod_lt_of_pos (mixF c 32) (show (0 : Int) < 3 by decide))
      refine ⟨p3, _, _, v3, rfl, rfl, SqL.of upd_same, ha3, ?_⟩
      have e3 : ∃ z : Str, v3 = V.str z ∧ z.length ≤ 30 := by
        simp only [List.mem_cons, List.not_mem_nil, or_false] at hv3
        rcases hv3 with rfl | rfl | rfl
        · exact ⟨_, rfl, by rw [str_len, str_len]; show _ + 1 + _ ≤ 30; omega⟩
        · exact ⟨_, rfl, by rw [str_len]; show 1 + _ ≤ 30; omega⟩
        · exact ⟨_, rfl, by rw [str_len]; omega⟩
      obtain ⟨z, rfl, hz⟩ := e3
      exact q z _ ((Same.updN hp).trans (Same.updN hp3)) hz
end
end K01

set_option Elab.async false
set_option linter.all false
set_option maxRecDepth 100000
set_option maxHeartbeats 4000000
namespace K01
open PySem L2 PySem.Spec PyProof.Rows
section
variable {P : Program} {w : World} {K : PySem.W.Frag} {mg : Str → Option Value} {base : Heap} {t : Adr}
/-! ### the law -/
def tChM (ta tb tc : TE) : TE := fun σ H Q => ta σ H fun x H1 => tb σ H1 fun y H2 => ∃ i j k : Int, x = .int i ∧ y = .int j ∧ (∀ Q' : VK, Q' (.int k) H2 → tc σ H2 Q') ∧ Q (.bl (decide (i ≤ j) && decide (j ≤ k))) H2
theorem pe_chainM {X : Cx} {a b c : Expr} {pos : Pos} {ta tb tc : TE} (ha : PE X a ta) (hb : PE X b tb) (hc : PE X c tc)
    (hm : lastMarks [CmpOp.LtE, CmpOp.LtE] [b, c] = false := by with_unfolding_all rfl) : PE X (.Compare a [.LtE, .LtE] [b, c] pos) (tChM ta tb tc) := by
  intro pins s σ H Q I h
  refine Compare_chain (thn (ha pins s σ H _ I h) fun v s1 ⟨x, H1, I1, r1, q1⟩ => chain_link (thn (hb pins s1 σ H1 _ I1 q1) fun u s2 ⟨y, H2, I2, r2, i, j, k, ex, ey, hk, q⟩ => ?_)) hm
  subst ex ey
  refine thn (op_le pins s2 σ H2 (.int i) (.int j) v u (fun z H3 => H3 = H2 ∧ z = .bl (decide (i ≤ j))) I2 r1 r2 ⟨i, j, rfl, rfl, rfl, rfl⟩) fun d s3 ⟨z, H3, I3, r3, e1, e2⟩ => ?_
  subst e1 e2
  cases r3
  refine wpAny_truthy_bool ?_
  by_cases hij : i ≤ j
  · rw [decide_eq_true hij, Bool.true_and] at q
    rw [decide_eq_true hij]
    exact ite_tt (chain_last (thn (hc pins s3 σ H3 _ I3 (hk (fun z' H4 => z' = .int k ∧ H4 = H3) ⟨rfl, rfl⟩)) fun w' s4 ⟨z', H4, I4, r4, e3, e4⟩ => by
      subst e3 e4
      exact op_le pins s4 σ H4 (.int j) (.int k) u w' Q I4 r2 r4 ⟨j, k, rfl, rfl, q⟩))
  · rw [decide_eq_false hij, Bool.false_and] at q
    rw [decide_eq_false hij]
    exact ite_ff ⟨.bl false, H3, I3, rfl, q⟩
theorem eqAt_v {s : Shared} {x : V} {u v : Value} (A : Around) (r : RelV x u) (q : RelV x v) (h : flatV x = true ∨ ∃ a, x = .ref a) : SeqAt.EqAt A s u v true := by
  rcases h with h | ⟨a, rfl⟩
  · exact RelV.eqAt_flat A r q h
  · cases r; cases q; exact SeqAt.EqAt.same _
theorem op_neT {X : Cx} (hu : X.A.units < cLine) : OpR X (compareOp .NotEq) (fun x y H Q => ∃ a b xs, x = .ref a ∧ y = .ref b ∧ SqT X.K H a xs ∧ SqT X.K H b xs ∧ (∀ x ∈ xs, flatV x = true ∨ ∃ a, x = .ref a) ∧ Q (.bl false) H) := by
  rintro pins s σ H x y v u Q I rx ry ⟨a, b, xs, rfl, rfl, h1, h2, hf, q⟩
  cases rx; cases ry
  obtain ⟨its, rv, p, _⟩ := I.tuple h1
  obtain ⟨its2, rv2, p2, _⟩ := I.tuple h2
  have hl := rv.length
  have hl2 := rv2.length
  refine PySem.EqBoolInt.of_rcne (SeqAt.RcNeAt.tuples (e := fun _ => true) p p2 hu fun j h1 h2 => ?_) (fin_bl I q ?_)
  · have hj : j < xs.length := by rw [hl]; simpa using h1
    obtain ⟨u1, e1, r1⟩ := rv.get (List.getElem?_eq_getElem hj)
    obtain ⟨u2, e2, r2⟩ := rv2.get (List.getElem?_eq_getElem hj)
    have a1 : its.toArray[j] = u1 := by
      have := List.getElem?_eq_some_iff.mp e1
      obtain ⟨_, z⟩ := this
      simpa using z
    have a2 : its2.toArray[j] = u2 := by
      have := List.getElem?_eq_some_iff.mp e2
      obtain ⟨_, z⟩ := this
      simpa using z
    rw [a1, a2]
    exact eqAt_v _ r1 r2 (hf _ (List.getElem_mem hj))
  · rw [all_range_true, List.size_toArray, List.size_toArray, ← hl, ← hl2]; simp
/-- a drawn thing that is no text, and no other whole number -/
def Thing (K : PySem.W.Frag) (H : Hp) (n : Int) (v : V) : Prop := ∃ d, Rep K H v d ∧ (∀ z, d ≠ .str z) ∧ (∀ i, d = .int i → i = n) ∧ (flatV v = true ∨ ∃ a, v = .ref a)
theorem thing_name {d : D} (h : ∀ z, d ≠ .str z) : nameD d = false := by cases d <;> first | rfl | exact absurd rfl (h _)
theorem thing_wr {d : D} (h : ∀ z, d ≠ .str z) : wrD d = false := by cases d <;> first | rfl | exact absurd rfl (h _)
theorem thing_str {d : D} {n : Int} (h : ∀ i, d = .int i → i = n) (k : neI d n = true) : strengthD d = false := by
  cases d with
  | int i => rw [h i rfl] at k; simp [neI] at k
  | _ => rfl
theorem Thing.same {K : PySem.W.Frag} {H H' : Hp} {n : Int} {v : V} (h : Thing K H n v) (e : Same H H') : Thing K H' n v := by
  obtain ⟨d, r, h⟩ := h
  exact ⟨d, r.sm e.sm, h⟩
def sp_law (K : PySem.W.Frag) : Sp := fun vs H Q _ => ∃ (a : Addr) (ns : List Int), vs = [.ref a] ∧ SqL K H a (ns.map V.int) ∧ ∀ H', Q (.bl true) H'
theorem ok_law (T : Txt K mg t) : FnOk P w K mg base CX0 8 t.law t.fd_law ["_law_script"] (sp_law K) := by
  refine T.f_law.fn.ok sc_law (fun vs H Q E h => ?_) (fun cdv A outer s H vs Q E hr h => ?_)
  · obtain ⟨a, ns, rfl, _⟩ := h; rfl
  · obtain ⟨a, ns, rfl, hA, q⟩ := h
    have hu1 : (A.deeper _).units < cLine := Nat.lt_of_succ_lt (hu_of hr)
    refine ⟨_, (pss_cons (ps_for PassesOwn.never rfl (pi_range1 rfl T.b_range (pa_cons (pe_callB (call_max2 rfl) (by rfl) T.b_max boot_max' (pa_cons pe_int (pa_cons (pe_callB (call_min2 rfl) (by rfl) T.b_min boot_min' (pa_cons (pe_callB call_len (by rfl) T.b_len boot_len' (pa_cons (pv 0) pa_nil)) (pa_cons pe_int pa_nil))) pa_nil))) pa_nil)) (pg_name (i := 1) sc_law.nd rfl (Or.inl rfl))
        (pss_cons (ps_set (i := 2) sc_law.nd rfl (Or.inl rfl) (pe_call (ok_l_cell_at T) (hr.mono (by decide)) rfl T.f_l_cell_at.mg T.f_l_cell_at.kp T.f_l_cell_at.bd .nil pass0 (pa_cons (pv 0) (pa_cons (pv 1) pa_nil))))
      (pss_cons (ps_set (i := 3) sc_law.nd rfl (Or.inl rfl) (pe_call (ok_l_text T) (hr.mono (by decide)) rfl T.f_l_text.mg T.f_l_text.kp T.f_l_text.bd .nil pass0 (pa_cons (pv 2) pa_nil)))
      (pss_cons (ps_set (i := 4) sc_law.nd rfl (Or.inl rfl) (pe_call (ok_l_whole T) (hr.mono (by decide)) rfl T.f_l_whole.mg T.f_l_whole.kp T.f_l_whole.bd .nil pass0 (pa_cons (pv 2) pa_nil)))
      (pss_cons (ps_set (i := 5) sc_law.nd rfl (Or.inl rfl) (pe_call (ok_l_number_text T) (hr.mono (by decide)) rfl T.f_l_number_text.mg T.f_l_number_text.kp T.f_l_number_text.bd .nil pass0 (pa_cons (pv 2) pa_nil)))
      (pss_cons (ps_if (PW.pt (pw_or (pt_not (pt_val (pe_call (ok_l_same T) (hr.mono (by decide)) rfl T.f_l_same.mg T.f_l_same.kp T.f_l_same.bd .nil pass0 (pa_cons (pe_call (ok_is_name T) (hr.mono (by decide)) rfl T.f_is_name.mg T.f_is_name.kp T.f_is_name.bd .nil pass0 (pa_cons (pv 3) pa_nil)) (pa_cons (pe_call (ok_l_is_name T) (hr.mono (by decide)) rfl T.f_l_is_name.mg T.f_l_is_name.kp T.f_l_is_name.bd .nil pass0 (pa_cons (pv 3) pa_nil)) pa_nil))))) (pw_or1 (pt_not (pt_val (pe_call (ok_l_same T) (hr.mono (by decide)) rfl T.f_l_same.mg T.f_l_same.kp T.f_l_same.bd .nil pass0 (pa_cons (pe_call (ok_is_strength T) (hr.mono (by decide)) rfl T.f_is_strength.mg T.f_is_strength.kp T.f_is_strength.bd .nil pass0 (pa_cons (pv 3) pa_nil)) (pa_cons pe_bl pa_nil))))))))
        (pss_one (ps_ret pe_bl))
        pss_nil)
      (pss_cons (ps_if (PW.pt (pw_or (pt_not (pt_val (pe_call (ok_l_same T) (hr.mono (by decide)) rfl T.f_l_same.mg T.f_l_same.kp T.f_l_same.bd .nil pass0 (pa_cons (pe_call (ok_is_strength T) (hr.mono (by decide)) rfl T.f_is_strength.mg T.f_is_strength.kp T.f_is_strength.bd .nil pass0 (pa_cons (pv 4) pa_nil)) (pa_cons (pe_chainM pe_int (pv 4) (pe_op op_pow pe_int pe_int)) pa_nil))))) (pw_or1 (pt_not (pt_val (pe_call (ok_l_same T) (hr.mono (by decide)) rfl T.f_l_same.mg T.f_l_same.kp T.f_l_same.bd .nil pass0 (pa_cons (pe_call (ok_is_name T) (hr.mono (by decide)) rfl T.f_is_name.mg T.f_is_name.kp T.f_is_name.bd .nil pass0 (pa_cons (pv 4) pa_nil)) (pa_cons pe_bl pa_nil))))))))
        (pss_one (ps_ret pe_bl))
        pss_nil)
      (pss_cons (ps_set (i := 6) sc_law.nd rfl (Or.inl rfl) (pe_call (ok_l_read T) (hr.mono (by decide)) rfl T.f_l_read.mg T.f_l_read.kp T.f_l_read.bd .nil pass0 (pa_cons (pv 5) pa_nil)))
      (pss_cons (ps_if (pt_cmpR op_isN (pv 6) pe_non (nomark _))
        (pss_one (ps_set (i := 6) sc_law.nd rfl (Or.inl rfl) (pe_tup (pa_cons pe_str (pa_cons (pv 5) (pa_cons pe_bl (pa_cons pe_bl pa_nil)))))))
        pss_nil)
      (pss_cons (ps_if (pt_not (pt_val (pe_call (ok_l_same T) (hr.mono (by decide)) rfl T.f_l_same.mg T.f_l_same.kp T.f_l_same.bd .nil pass0 (pa_cons (pe_call (ok_l_told T) (hr.mono (by decide)) rfl T.f_l_told.mg T.f_l_told.kp T.f_l_told.bd .nil pass0 (pa_cons (pv 5) pa_nil)) (pa_cons (pv 6) pa_nil)))))
        (pss_one (ps_ret pe_bl))
        pss_nil)
      (pss_one (ps_for PassesOwn.never rfl (pi_list (pe_lst (pa_cons pe_non (pa_cons pe_bl (pa_cons pe_bl (pa_cons (pe_lst (pa_cons (pv 3) pa_nil)) (pa_cons (pe_tup (pa_cons (pv 3) pa_nil)) (pa_cons pe_dnewK (pa_cons (pe_lst (pa_cons (pv 4) pa_nil)) (pa_cons (pv 4) pa_nil)))))))))) (pg_name (i := 7) sc_law.nd rfl (Or.inl rfl))
        (pss_cons (ps_if (PW.pt (pw_or (pt_not (pt_val (pe_call (ok_l_same T) (hr.mono (by decide)) rfl T.f_l_same.mg T.f_l_same.kp T.f_l_same.bd .nil pass0 (pa_cons (pe_call (ok_is_name T) (hr.mono (by decide)) rfl T.f_is_name.mg T.f_is_name.kp T.f_is_name.bd .nil pass0 (pa_cons (pv 7) pa_nil)) (pa_cons pe_bl pa_nil))))) (pw_or1 (pt_cmpR (op_neT hu1) (pe_call (ok_l_told T) (hr.mono (by decide)) rfl T.f_l_told.mg T.f_l_told.kp T.f_l_told.bd .nil pass0 (pa_cons (pv 7) pa_nil)) (pe_tup (pa_cons pe_str (pa_cons (pv 7) (pa_cons pe_bl (pa_cons pe_bl pa_nil))))) (nomark _)))))
        (pss_one (ps_ret pe_bl))
        pss_nil)
      (pss_one (ps_if (PW.pt (pw_and (pt_cmpR (op_neI hu1) (pv 7) (pv 4) (nomark _)) (pw_and1 (pt_not (pt_val (pe_call (ok_l_same T) (hr.mono (by decide)) rfl T.f_l_same.mg T.f_l_same.kp T.f_l_same.bd .nil pass0 (pa_cons (pe_call (ok_is_strength T) (hr.mono (by decide)) rfl T.f_is_strength.mg T.f_is_strength.kp T.f_is_strength.bd .nil pass0 (pa_cons (pv 7) pa_nil)) (pa_cons pe_bl pa_nil))))))))
        (pss_one (ps_ret pe_bl))
        pss_nil)))))))))))))))
      (pss_one (ps_ret (pe_and (pe_call (ok_l_same T) (hr.mono (by decide)) rfl T.f_l_same.mg T.f_l_same.kp T.f_l_same.bd .nil pass0 (pa_cons (pe_call (ok_is_strength T) (hr.mono (by decide)) rfl T.f_is_strength.mg T.f_is_strength.kp T.f_is_strength.bd .nil pass0 (pa_cons pe_bl pa_nil)) (pa_cons pe_bl pa_nil))) (pe_one (pe_cmpR op_eq (pe_call (ok_l_told T) (hr.mono (by decide)) rfl T.f_l_told.mg T.f_l_told.kp T.f_l_told.bd .nil pass0 (pa_cons pe_str pa_nil)) pe_int (nomark _))))))), ?_⟩
    refine ⟨_, rfl, .ref a, ns.length, rfl, .inl ⟨_, hA, by simp⟩, _, _, rfl, _, _, rfl, _, rfl, (by (repeat' split) <;> omega), (by (repeat' split) <;> omega), ?_⟩
    refine for_range (fun i σ H2 => ∃ x1 x2 x3 x4 x5 x6 x7, σ = [some (.ref a), x1, x2, x3, x4, x5, x6, x7] ∧ Same H H2) ⟨_, _, _, _, _, _, _, rfl, Same.refl _⟩ (fun i σ H2 hi pv => ?_) (fun σ H2 pv => ?_)
    · obtain ⟨x1, x2, x3, x4, x5, x6, x7, rfl, S0⟩ := pv
      simp only [Int.zero_add]
      refine ⟨_, rfl, _, rfl, a, ns, (i : Int), rfl, by omega, S0.seq hA, ?_⟩
      refine ⟨_, rfl, _, rfl, fun tx H3 S3 hx => ⟨_, rfl, _, rfl, fun n H4 S4 => ⟨_, rfl, _, rfl, fun rw_ H5 S5 hr5 => ?_⟩⟩⟩
      have hx' : tx.length < sizeLine := szl (by omega)
      have hr' : rw_.length < sizeLine := szl (by omega)
      refine ⟨_, rfl, _, .str tx, rfl, .str tx, (fun z e => by cases e; exact hx'), fun H6 S6 => ⟨_, rfl, tx, rfl, hx', fun H7 S7 => ⟨_, _, rfl, .inl ⟨_, rfl, rfl⟩, _, rfl, iteF ?_⟩⟩⟩
      refine ⟨_, rfl, _, .str tx, rfl, .str tx, _, _, rfl, .inl ⟨false, rfl, rfl⟩, _, rfl, iteF ?_⟩
      refine ⟨_, rfl, _, .int n, rfl, .int n, ⟨_, rfl, 1, n, 10 ^ Int.toNat 9, rfl, rfl, (fun Q' hQ => ⟨_, _, rfl, rfl, ⟨by decide, by decide, by decide⟩, hQ⟩), _, _, rfl, .inl ⟨_, rfl, rfl⟩, _, rfl, iteF ?_⟩⟩
      refine ⟨_, rfl, _, .int n, rfl, .int n, (fun z e => by cases e), fun H8 S8 => ⟨_, _, rfl, .inl ⟨false, rfl, rfl⟩, _, rfl, iteF ?_⟩⟩
      have S08 := ((((((S0.trans S3).trans S4).trans S5).trans S6).trans S7).trans S8)
      refine ⟨_, rfl, rw_, rfl, hr', (fun hw H9 S9 => ⟨_, rfl, rfl, _, rfl, iteD (fun z => by cases z) (fun _ => ?_)⟩), (fun hw H9 S9 => ⟨_, rfl, rfl, _, rfl, iteD (fun _ => ⟨_, rfl, by show 4 ≤ sizeLine; decide, fun pd hpd => ?_⟩) (fun z => absurd rfl z)⟩)⟩
      · refine ⟨_, rfl, _, .str rw_, rfl, .str rw_, (fun z e => by cases e; exact hr'), (fun z H10 e _ S10 => ?_), (fun h => absurd (hw.symm.trans h) (by decide))⟩
        cases e
        refine ⟨_, rfl, _, _, rfl, .inr (.inl ⟨_, rfl, rfl⟩), _, rfl, iteF ?_⟩
        refine ⟨_, rfl, by show 1 ≤ sizeLine; decide, fun p1 hp1 => ⟨_, rfl, by show 1 ≤ sizeLine; decide, fun p2 hp2 p3 hp3 => ⟨_, rfl, by show 1 ≤ sizeLine; decide, fun p4 hp4 => ⟨_, rfl, by show 8 ≤ sizeLine; decide, fun p hp => ?_⟩⟩⟩⟩
        have Sq : Same H10 _ := ((((Same.updN hp1).trans (Same.updN hp2)).trans (Same.updN hp3)).trans (Same.updN hp4)).trans (Same.updN (o := .lst [V.non, V.bl true, V.bl false, V.ref p1, V.ref p2, V.ref p3, V.ref p4, V.int n]) hp)
        have n21 : p1 ≠ p2 := fun z => by rw [← z, upd_same] at hp2; cases hp2
        have n31 : p1 ≠ p3 := fun z => by rw [← z, upd_ne n21, upd_same] at hp3; cases hp3
        have n32 : p2 ≠ p3 := fun z => by rw [← z, upd_same] at hp3; cases hp3
        have n41 : p1 ≠ p4 := fun z => by rw [← z, upd_ne n31, upd_ne n21, upd_same] at hp4; cases hp4
        have n42 : p2 ≠ p4 := fun z => by rw [← z, upd_ne n32, upd_same] at hp4; cases hp4
        have n43 : p3 ≠ p4 := fun z => by rw [← z, upd_same] at hp4; cases hp4
        have n51 : p1 ≠ p := fun z => by rw [← z, upd_ne n41, upd_ne n31, upd_ne n21, upd_same] at hp; cases hp
        have n52 : p2 ≠ p := fun z => by rw [← z, upd_ne n42, upd_ne n32, upd_same] at hp; cases hp
        have n53 : p3 ≠ p := fun z => by rw [← z, upd_ne n43, upd_same] at hp; cases hp
        have n54 : p4 ≠ p := fun z => by rw [← z, upd_same] at hp; cases hp
        have things : ∀ v ∈ [V.non, V.bl true, V.bl false, V.ref p1, V.ref p2, V.ref p3, V.ref p4, V.int n], Thing K (upd (upd (upd (upd (upd H10 p1 (.lst [.str tx])) p2 (.tup [.str tx])) p3 (.dK [])) p4 (.lst [.int n])) p (.lst [V.non, V.bl true, V.bl false, V.ref p1, V.ref p2, V.ref p3, V.ref p4, V.int n])) n v := by
          intro v hv
          simp only [List.mem_cons, List.not_mem_nil, or_false] at hv
          rcases hv with rfl | rfl | rfl | rfl | rfl | rfl | rfl | rfl
          · exact ⟨.non, .non, (fun z e => by cases e), (fun z e => by cases e), .inl rfl⟩
          · exact ⟨.bl true, .bl true, (fun z e => by cases e), (fun z e => by cases e), .inl rfl⟩
          · exact ⟨.bl false, .bl false, (fun z e => by cases e), (fun z e => by cases e), .inl rfl⟩
          · exact ⟨.lst [.str tx], .lst (SqL.of (by rw [upd_ne n51, upd_ne n41, upd_ne n31, upd_ne n21, upd_same])) (.cons (.str _) .nil), (fun z e => by cases e), (fun z e => by cases e), .inr ⟨_, rfl⟩⟩
          · exact ⟨.tup [.str tx], .tup (SqT.of (by rw [upd_ne n52, upd_ne n42, upd_ne n32, upd_same])) (.cons (.str _) .nil), (fun z e => by cases e), (fun z e => by cases e), .inr ⟨_, rfl⟩⟩
          · exact ⟨.dct [], .dct (.inl (by rw [upd_ne n53, upd_ne n43, upd_same])) .nil, (fun z e => by cases e), (fun z e => by cases e), .inr ⟨_, rfl⟩⟩
          · exact ⟨.lst [.int n], .lst (SqL.of (by rw [upd_ne n54, upd_same])) (.cons (.int _) .nil), (fun z e => by cases e), (fun z e => by cases e), .inr ⟨_, rfl⟩⟩
          · exact ⟨.int n, .int n, (fun z e => by cases e), (fun z e => by cases e; rfl), .inl rfl⟩
        refine ⟨p, rfl, ⟨_, SqL.of upd_same⟩, for_list (xs := [V.non, V.bl true, V.bl false, V.ref p1, V.ref p2, V.ref p3, V.ref p4, V.int n]) (fun j σ H' => ∃ x2 x6 x7, σ = [some (.ref a), some (.int i), x2, some (.str tx), some (.int n), some (.str rw_), x6, x7] ∧ Same (upd (upd (upd (upd (upd H10 p1 (.lst [.str tx])) p2 (.tup [.str tx])) p3 (.dK [])) p4 (.lst [.int n])) p (.lst [V.non, V.bl true, V.bl false, V.ref p1, V.ref p2, V.ref p3, V.ref p4, V.int n])) H') ⟨_, _, _, rfl, Same.refl _⟩ (fun j σ H' hj pv => ?_) (fun j x σ H' hx pv => ?_) (fun σ H' pv => ?_)⟩
        · obtain ⟨_, _, _, _, Sj⟩ := pv
          exact Sj.seq (SqL.of upd_same)
        · obtain ⟨x2, x6, x7, rfl, Sj⟩ := pv
          obtain ⟨d, hd, hs, hi', hf⟩ := (things x (List.mem_of_getElem? hx)).same Sj
          refine ⟨_, rfl, _, d, rfl, hd, (fun z e => absurd e (hs z)), fun H1 S1 => ⟨_, _, rfl, .inl ⟨false, congrArg V.bl (thing_name hs), rfl⟩, _, rfl, iteF ?_⟩⟩
          refine ⟨_, rfl, _, d, rfl, hd.sm S1.sm, (fun z e => absurd e (hs z)), (fun z H2 e => absurd e (hs z)), (fun _ pt H2 S2 hpt => ⟨_, rfl, by show 4 ≤ sizeLine; decide, fun pu hpu => ?_⟩)⟩
          have ntu : pt ≠ pu := fun z => by rw [z, hpu] at hpt; cases hpt
          refine ⟨pt, pu, _, rfl, rfl, SqT.of (by rw [upd_ne ntu]; exact hpt), SqT.of upd_same, (fun y hy => ?_), _, rfl, iteF ?_⟩
          · simp only [List.mem_cons, List.not_mem_nil, or_false] at hy
            rcases hy with rfl | rfl | rfl | rfl
            · exact .inl rfl
            · exact hf
            · exact .inl rfl
            · exact .inl rfl
          · have S3 := (S1.trans S2).trans (Same.updN (o := .tup [V.str (Str.ofString "refused"), x, V.bl true, V.bl true]) hpu)
            refine ⟨_, rfl, _, rfl, d, n, rfl, hd.sm S3.sm, hs, _, rfl, iteB (fun k => ⟨_, rfl, _, d, rfl, hd.sm S3.sm, _, _, rfl, .inl ⟨false, congrArg V.bl (thing_str hi' k), rfl⟩, _, rfl, iteF ?_⟩) (fun k => iteF ?_)⟩
            · exact ⟨_, _, _, rfl, Sj.trans S3⟩
            · exact ⟨_, _, _, rfl, Sj.trans S3⟩
        · obtain ⟨x2, x6, x7, rfl, Sj⟩ := pv
          exact ⟨_, _, _, _, _, _, _, rfl, ((S08.trans S9).trans S10).trans (Sq.trans Sj)⟩
      · refine ⟨_, rfl, _, .str rw_, rfl, .str rw_, (fun z e => by cases e; exact hr'), (fun z H10 e h _ => absurd (hw.symm.trans h) (by decide)), (fun _ pt0 H10 S10 hpt0 => ?_)⟩
        refine ⟨_, rfl, _, _, rfl, .inr (.inr ⟨pt0, pd, [.str (Str.ofString "refused"), .str rw_, .bl true, .bl true], [.str (Str.ofString "refused"), .str rw_, .bl true, .bl true], rfl, rfl, .tup (SqT.of hpt0) (.cons (.str _) (.cons (.str _) (.cons (.bl _) (.cons (.bl _) .nil)))), .tup (SqT.of (S10 _ _ upd_same)) (.cons (.str _) (.cons (.str _) (.cons (.bl _) (.cons (.bl _) .nil)))), .same rfl, by simp [D.dep, D.deps]⟩), _, rfl, iteF ?_⟩
        refine ⟨_, rfl, by show 1 ≤ sizeLine; decide, fun p1 hp1 => ⟨_, rfl, by show 1 ≤ sizeLine; decide, fun p2 hp2 p3 hp3 => ⟨_, rfl, by show 1 ≤ sizeLine; decide, fun p4 hp4 => ⟨_, rfl, by show 8 ≤ sizeLine; decide, fun p hp => ?_⟩⟩⟩⟩
        have Sq : Same H10 _ := ((((Same.updN hp1).trans (Same.updN hp2)).trans (Same.updN hp3)).trans (Same.updN hp4)).trans (Same.updN (o := .lst [V.non, V.bl true, V.bl false, V.ref p1, V.ref p2, V.ref p3, V.ref p4, V.int n]) hp)
        have n21 : p1 ≠ p2 := fun z => by rw [← z, upd_same] at hp2; cases hp2
        have n31 : p1 ≠ p3 := fun z => by rw [← z, upd_ne n21, upd_same] at hp3; cases hp3
        have n32 : p2 ≠ p3 := fun z => by rw [← z, upd_same] at hp3; cases hp3
        have n41 : p1 ≠ p4 := fun z => by rw [← z, upd_ne n31, upd_ne n21, upd_same] at hp4; cases hp4
        have n42 : p2 ≠ p4 := fun z => by rw [← z, upd_ne n32, upd_same] at hp4; cases hp4
        have n43 : p3 ≠ p4 := fun z => by rw [← z, upd_same] at hp4; cases hp4
        have n51 : p1 ≠ p := fun z => by rw [← z, upd_ne n41, upd_ne n31, upd_ne n21, upd_same] at hp; cases hp
        have n52 : p2 ≠ p := fun z => by rw [← z, upd_ne n42, upd_ne n32, upd_same] at hp; cases hp
        have n53 : p3 ≠ p := fun z => by rw [← z, upd_ne n43, upd_same] at hp; cases hp
        have n54 : p4 ≠ p := fun z => by rw [← z, upd_same] at hp; cases hp
        have things : ∀ v ∈ [V.non, V.bl true, V.bl false, V.ref p1, V.ref p2, V.ref p3, V.ref p4, V.int n], Thing K (upd (upd (upd (upd (upd H10 p1 (.lst [.str tx])) p2 (.tup [.str tx])) p3 (.dK [])) p4 (.lst [.int n])) p (.lst [V.non, V.bl true, V.bl false, V.ref p1, V.ref p2, V.ref p3, V.ref p4, V.int n])) n v := by
          intro v hv
          simp only [List.mem_cons, List.not_mem_nil, or_false] at hv
          rcases hv with rfl | rfl | rfl | rfl | rfl | rfl | rfl | rfl
          · exact ⟨.non, .non, (fun z e => by cases e), (fun z e => by cases e), .inl rfl⟩
          · exact ⟨.bl true, .bl true, (fun z e => by cases e), (fun z e => by cases e), .inl rfl⟩
          · exact ⟨.bl false, .bl false, (fun z e => by cases e), (fun z e => by cases e), .inl rfl⟩
          · exact ⟨.lst [.str tx], .lst (SqL.of (by rw [upd_ne n51, upd_ne n41, upd_ne n31, upd_ne n21, upd_same])) (.cons (.str _) .nil), (fun z e => by cases e), (fun z e => by cases e), .inr ⟨_, rfl⟩⟩
          · exact ⟨.tup [.str tx], .tup (SqT.of (by rw [upd_ne n52, upd_ne n42, upd_ne n32, upd_same])) (.cons (.str _) .nil), (fun z e => by cases e), (fun z e => by cases e), .inr ⟨_, rfl⟩⟩
          · exact ⟨.dct [], .dct (.inl (by rw [upd_ne n53, upd_ne n43, upd_same])) .nil, (fun z e => by cases e), (fun z e => by cases e), .inr ⟨_, rfl⟩⟩
          · exact ⟨.lst [.int n], .lst (SqL.of (by rw [upd_ne n54, upd_same])) (.cons (.int _) .nil), (fun z e => by cases e), (fun z e => by cases e), .inr ⟨_, rfl⟩⟩
          · exact ⟨.int n, .int n, (fun z e => by cases e), (fun z e => by cases e; rfl), .inl rfl⟩
        refine ⟨p, rfl, ⟨_, SqL.of upd_same⟩, for_list (xs := [V.non, V.bl true, V.bl false, V.ref p1, V.ref p2, V.ref p3, V.ref p4, V.int n]) (fun j σ H' => ∃ x2 x6 x7, σ = [some (.ref a), some (.int i), x2, some (.str tx), some (.int n), some (.str rw_), x6, x7] ∧ Same (upd (upd (upd (upd (upd H10 p1 (.lst [.str tx])) p2 (.tup [.str tx])) p3 (.dK [])) p4 (.lst [.int n])) p (.lst [V.non, V.bl true, V.bl false, V.ref p1, V.ref p2, V.ref p3, V.ref p4, V.int n])) H') ⟨_, _, _, rfl, Same.refl _⟩ (fun j σ H' hj pv => ?_) (fun j x σ H' hx pv => ?_) (fun σ H' pv => ?_)⟩
        · obtain ⟨_, _, _, _, Sj⟩ := pv
          exact Sj.seq (SqL.of upd_same)
        · obtain ⟨x2, x6, x7, rfl, Sj⟩ := pv
          obtain ⟨d, hd, hs, hi', hf⟩ := (things x (List.mem_of_getElem? hx)).same Sj
          refine ⟨_, rfl, _, d, rfl, hd, (fun z e => absurd e (hs z)), fun H1 S1 => ⟨_, _, rfl, .inl ⟨false, congrArg V.bl (thing_name hs), rfl⟩, _, rfl, iteF ?_⟩⟩
          refine ⟨_, rfl, _, d, rfl, hd.sm S1.sm, (fun z e => absurd e (hs z)), (fun z H2 e => absurd e (hs z)), (fun _ pt H2 S2 hpt => ⟨_, rfl, by show 4 ≤ sizeLine; decide, fun pu hpu => ?_⟩)⟩
          have ntu : pt ≠ pu := fun z => by rw [z, hpu] at hpt; cases hpt
          refine ⟨pt, pu, _, rfl, rfl, SqT.of (by rw [upd_ne ntu]; exact hpt), SqT.of upd_same, (fun y hy => ?_), _, rfl, iteF ?_⟩
          · simp only [List.mem_cons, List.not_mem_nil, or_false] at hy
            rcases hy with rfl | rfl | rfl | rfl
            · exact .inl rfl
            · exact hf
            · exact .inl rfl
            · exact .inl rfl
          · have S3 := (S1.trans S2).trans (Same.updN (o := .tup [V.str (Str.ofString "refused"), x, V.bl true, V.bl true]) hpu)
            refine ⟨_, rfl, _, rfl, d, n, rfl, hd.sm S3.sm, hs, _, rfl, iteB (fun k => ⟨_, rfl, _, d, rfl, hd.sm S3.sm, _, _, rfl, .inl ⟨false, congrArg V.bl (thing_str hi' k), rfl⟩, _, rfl, iteF ?_⟩) (fun k => iteF ?_)⟩
            · exact ⟨_, _, _, rfl, Sj.trans S3⟩
            · exact ⟨_, _, _, rfl, Sj.trans S3⟩
        · obtain ⟨x2, x6, x7, rfl, Sj⟩ := pv
          exact ⟨_, _, _, _, _, _, _, rfl, (((S08.trans S9).trans (Same.updN hpd)).trans S10).trans (Sq.trans Sj)⟩
    · obtain ⟨x1, x2, x3, x4, x5, x6, x7, rfl, S0⟩ := pv
      refine ⟨_, .bl true, rfl, .bl true, _, _, rfl, .inl ⟨false, rfl, rfl⟩, _, rfl, iteT ⟨_, .str (Str.ofString "0"), rfl, .str _, (fun z e => by cases e; exact szl (by decide)), (fun x H' e _ S => ?_), (fun h => absurd h (by decide +kernel))⟩⟩
      cases e
      refine ⟨rfl, ?_⟩
      rw [show readN (Str.ofString "0") = 0 by decide +kernel]
      exact q _
end
end K01

set_option Elab.async false
set_option linter.all false
open PySem PySem.W PyProof.Rows
set_option maxRecDepth 100000 in
set_option maxHeartbeats 0 in
theorem PySem.Challenge.cw_spareline_k01_names_strengths_numbers_holds : PySem.Challenge.rw_spareline_k01_names_strengths_numbers.Holds := by
  w_on; o_law; k_head; (case hw => w_witness2)
  k_fill
  refine L2.walk_ofK (l := PySem.Challenge.rw_spareline_k01_names_strengths_numbers) (n := 63) (k := 8) (x := "_law_script") (CX := L2.CX0) (sp := K01.sp_law) rfl (by decide) rfl ⟨rfl, by decide, by decide⟩ (fun w h Y => PySem.W.kIn_of Y) ?F ?S ?C
  case F =>
    intro w mg fa h KX G hmg
    have h_is_name : ∃ (f : Addr) (fd : FuncData), L2.Top (L2.KOf KX) mg "is_name" K01.s_is_name ["thing"] f fd := by
      dsimp only [L2.KOf]
      refine' ⟨_, _, L2.top_mk (st := K01.s_is_name) KX G ?a ?l ?c ?k (fun _ _ _ _ _ _ us hl => match us, hl with | [_], _ => rfl)⟩
      (case a => k_is); (case l => k_is); (case c => k_is); (case k => k_is)
    have h_is_strength : ∃ (f : Addr) (fd : FuncData), L2.Top (L2.KOf KX) mg "is_strength" K01.s_is_strength ["thing"] f fd := by
      dsimp only [L2.KOf]
      refine' ⟨_, _, L2.top_mk (st := K01.s_is_strength) KX G ?a ?l ?c ?k (fun _ _ _ _ _ _ us hl => match us, hl with | [_], _ => rfl)⟩
      (case a => k_is); (case l => k_is); (case c => k_is); (case k => k_is)
    have h_number_of : ∃ (f : Addr) (fd : FuncData), L2.Top (L2.KOf KX) mg "number_of" K01.s_number_of ["text"] f fd := by
      dsimp only [L2.KOf]
      refine' ⟨_, _, L2.top_mk (st := K01.s_number_of) KX G ?a ?l ?c ?k (fun _ _ _ _ _ _ us hl => match us, hl with | [_], _ => rfl)⟩
      (case a => k_is); (case l => k_is); (case c => k_is); (case k => k_is)
    have h_is_written_number : ∃ (f : Addr) (fd : FuncData), L2.Top (L2.KOf KX) mg "is_written_number" K01.s_is_written_number ["thing"] f fd := by
      dsimp only [L2.KOf]
      refine' ⟨_, _, L2.top_mk (st := K01.s_is_written_number) KX G ?a ?l ?c ?k (fun _ _ _ _ _ _ us hl => match us, hl with | [_], _ => rfl)⟩
      (case a => k_is); (case l => k_is); (case c => k_is); (case k => k_is)
    have h_is_made_of : ∃ (f : Addr) (fd : FuncData), L2.Top (L2.KOf KX) mg "is_made_of" K01.s_is_made_of ["text", "signs"] f fd := by
      dsimp only [L2.KOf]
      refine' ⟨_, _, L2.top_mk (st := K01.s_is_made_of) KX G ?a ?l ?c ?k (fun _ _ _ _ _ _ us hl => match us, hl with | [_, _], _ => rfl)⟩
      (case a => k_is); (case l => k_is); (case c => k_is); (case k => k_is)
    have h_l_cell_at : ∃ (f : Addr) (fd : FuncData), L2.Top (L2.KOf KX) mg "_law_cell_at" K01.s_l_cell_at ["_law_script", "_law_k"] f fd := by
      dsimp only [L2.KOf]
      refine' ⟨_, _, L2.top_mk (st := K01.s_l_cell_at) KX G ?a ?l ?c ?k (fun _ _ _ _ _ _ us hl => match us, hl with | [_, _], _ => rfl)⟩
      (case a => k_is); (case l => k_is); (case c => k_is); (case k => k_is)
    have h_l_mix : ∃ (f : Addr) (fd : FuncData), L2.Top (L2.KOf KX) mg "_law_mix" K01.s_l_mix ["_law_cell", "_law_k"] f fd := by
      dsimp only [L2.KOf]
      refine' ⟨_, _, L2.top_mk (st := K01.s_l_mix) KX G ?a ?l ?c ?k (fun _ _ _ _ _ _ us hl => match us, hl with | [_, _], _ => rfl)⟩
      (case a => k_is); (case l => k_is); (case c => k_is); (case k => k_is)
    have h_l_text : ∃ (f : Addr) (fd : FuncData), L2.Top (L2.KOf KX) mg "_law_text" K01.s_l_text ["_law_cell"] f fd := by
      dsimp only [L2.KOf]
      refine' ⟨_, _, L2.top_mk (st := K01.s_l_text) KX G ?a ?l ?c ?k (fun _ _ _ _ _ _ us hl => match us, hl with | [_], _ => rfl)⟩
      (case a => k_is); (case l => k_is); (case c => k_is); (case k => k_is)
    have h_l_number_text : ∃ (f : Addr) (fd : FuncData), L2.Top (L2.KOf KX) mg "_law_number_text" K01.s_l_number_text ["_law_cell"] f fd := by
      dsimp only [L2.KOf]
      refine' ⟨_, _, L2.top_mk (st := K01.s_l_number_text) KX G ?a ?l ?c ?k (fun _ _ _ _ _ _ us hl => match us, hl with | [_], _ => rfl)⟩
      (case a => k_is); (case l => k_is); (case c => k_is); (case k => k_is)
    have h_l_whole : ∃ (f : Addr) (fd : FuncData), L2.Top (L2.KOf KX) mg "_law_whole" K01.s_l_whole ["_law_cell"] f fd := by
      dsimp only [L2.KOf]
      refine' ⟨_, _, L2.top_mk (st := K01.s_l_whole) KX G ?a ?l ?c ?k (fun _ _ _ _ _ _ us hl => match us, hl with | [_], _ => rfl)⟩
      (case a => k_is); (case l => k_is); (case c => k_is); (case k => k_is)
    have h_l_is_name : ∃ (f : Addr) (fd : FuncData), L2.Top (L2.KOf KX) mg "_law_is_name" K01.s_l_is_name ["_law_text_here"] f fd := by
      dsimp only [L2.KOf]
      refine' ⟨_, _, L2.top_mk (st := K01.s_l_is_name) KX G ?a ?l ?c ?k (fun _ _ _ _ _ _ us hl => match us, hl with | [_], _ => rfl)⟩
      (case a => k_is); (case l => k_is); (case c => k_is); (case k => k_is)
    have h_l_read : ∃ (f : Addr) (fd : FuncData), L2.Top (L2.KOf KX) mg "_law_read" K01.s_l_read ["_law_text_here"] f fd := by
      dsimp only [L2.KOf]
      refine' ⟨_, _, L2.top_mk (st := K01.s_l_read) KX G ?a ?l ?c ?k (fun _ _ _ _ _ _ us hl => match us, hl with | [_], _ => rfl)⟩
      (case a => k_is); (case l => k_is); (case c => k_is); (case k => k_is)
    have h_l_told : ∃ (f : Addr) (fd : FuncData), L2.Top (L2.KOf KX) mg "_law_told" K01.s_l_told ["_law_thing"] f fd := by
      dsimp only [L2.KOf]
      refine' ⟨_, _, L2.top_mk (st := K01.s_l_told) KX G ?a ?l ?c ?k (fun _ _ _ _ _ _ us hl => match us, hl with | [_], _ => rfl)⟩
      (case a => k_is); (case l => k_is); (case c => k_is); (case k => k_is)
    have h_l_same : ∃ (f : Addr) (fd : FuncData), L2.Top (L2.KOf KX) mg "_law_same" K01.s_l_same ["_law_found", "_law_due"] f fd := by
      dsimp only [L2.KOf]
      refine' ⟨_, _, L2.top_mk (st := K01.s_l_same) KX G ?a ?l ?c ?k (fun _ _ _ _ _ _ us hl => match us, hl with | [_, _], _ => rfl)⟩
      (case a => k_is); (case l => k_is); (case c => k_is); (case k => k_is)
    have h_law : ∃ (f : Addr) (fd : FuncData), L2.Top (L2.KOf KX) mg "law" K01.s_law ["_law_script"] f fd ∧ ∀ (s : Shared) (u : Value), BindsTo s fd ⟨[u], []⟩ [("_law_script", u)] := by
      dsimp only [L2.KOf]
      refine' ⟨_, _, L2.top_mk (st := K01.s_law) KX G ?a ?l ?c ?k (fun _ _ _ _ _ _ us hl => match us, hl with | [_], _ => rfl), fun s u => .of_eq rfl⟩
      (case a => k_is); (case l => k_is); (case c => k_is); (case k => k_is)
    have b_all : PySem.W.nsIn (L2.KOf KX) mainGlobals "all" = some none := by
      dsimp only [L2.KOf]
      k_is
    have b_bool : PySem.W.nsIn (L2.KOf KX) mainGlobals "bool" = some none := by
      dsimp only [L2.KOf]
      k_is
    have b_int : PySem.W.nsIn (L2.KOf KX) mainGlobals "int" = some none := by
      dsimp only [L2.KOf]
      k_is
    have b_isinstance : PySem.W.nsIn (L2.KOf KX) mainGlobals "isinstance" = some none := by
      dsimp only [L2.KOf]
      k_is
    have b_len : PySem.W.nsIn (L2.KOf KX) mainGlobals "len" = some none := by
      dsimp only [L2.KOf]
      k_is
    have b_max : PySem.W.nsIn (L2.KOf KX) mainGlobals "max" = some none := by
      dsimp only [L2.KOf]
      k_is
    have b_min : PySem.W.nsIn (L2.KOf KX) mainGlobals "min" = some none := by
      dsimp only [L2.KOf]
      k_is
    have b_range : PySem.W.nsIn (L2.KOf KX) mainGlobals "range" = some none := by
      dsimp only [L2.KOf]
      k_is
    have b_str : PySem.W.nsIn (L2.KOf KX) mainGlobals "str" = some none := by
      dsimp only [L2.KOf]
      k_is
    have c_FIGURES : ∃ v : Value, PySem.W.nsIn (L2.KOf KX) mainGlobals "FIGURES" = some (some v) ∧ ∃ tk, v = .str "0123456789" tk := by
      dsimp only [L2.KOf]
      refine' L2.cst_mk (P := fun v => ∃ tk, v = .str "0123456789" tk) ?e ?f
      (case e => k_is); (case f => exact ⟨_, rfl⟩)
    have c_GREATEST_STRENGTH : ∃ v : Value, PySem.W.nsIn (L2.KOf KX) mainGlobals "GREATEST_STRENGTH" = some (some v) ∧ ∃ tk, v = .int 1000000000 tk := by
      dsimp only [L2.KOf]
      refine' L2.cst_mk (P := fun v => ∃ tk, v = .int 1000000000 tk) ?e ?f
      (case e => k_is); (case f => exact ⟨_, rfl⟩)
    have c_LETTERS : ∃ v : Value, PySem.W.nsIn (L2.KOf KX) mainGlobals "LETTERS" = some (some v) ∧ ∃ tk, v = .str "abcdefghijklmnopqrstuvwxyz" tk := by
      dsimp only [L2.KOf]
      refine' L2.cst_mk (P := fun v => ∃ tk, v = .str "abcdefghijklmnopqrstuvwxyz" tk) ?e ?f
      (case e => k_is); (case f => exact ⟨_, rfl⟩)
    have c_LONGEST_NAME : ∃ v : Value, PySem.W.nsIn (L2.KOf KX) mainGlobals "LONGEST_NAME" = some (some v) ∧ ∃ tk, v = .int 8 tk := by
      dsimp only [L2.KOf]
      refine' L2.cst_mk (P := fun v => ∃ tk, v = .int 8 tk) ?e ?f
      (case e => k_is); (case f => exact ⟨_, rfl⟩)
    have c_LONGEST_NUMBER : ∃ v : Value, PySem.W.nsIn (L2.KOf KX) mainGlobals "LONGEST_NUMBER" = some (some v) ∧ ∃ tk, v = .int 10 tk := by
      dsimp only [L2.KOf]
      refine' L2.cst_mk (P := fun v => ∃ tk, v = .int 10 tk) ?e ?f
      (case e => k_is); (case f => exact ⟨_, rfl⟩)
    have b_ValueError : PySem.W.nsIn (L2.KOf KX) mainGlobals "ValueError" = some none := by
      dsimp only [L2.KOf]
      k_is
    have h_NoRow : ∃ (C D fI : Addr) (fd : FuncData), L2.XTop (L2.KOf KX) mg "NoRow" "NoRow.__init__" K01.s_NoRow_i ["self", "row"] C D fI fd ∧ PySem.W.nsIn (L2.KOf KX) mainGlobals "NetError" = some (some (.ref D)) ∧ L2.NoAttr (L2.KOf KX) C "row" ∧ PySem.W.kitOne (L2.KOf KX) (.ref C) (.ref D) = some true ∧ PySem.W.kitOne (L2.KOf KX) (.ref C) (.type "ValueError") = some true := by
      dsimp only [L2.KOf]
      refine' ⟨_, _, _, _, L2.xtop_mk (st := K01.s_NoRow_i) KX G ?a ?lC ?eC ?lD ?lN ?hes ?iD ?ini ?sa ?fn ?kp ?ga ?gt ?cl ?l ?c ?k (fun _ _ _ _ _ _ us hl => match us, hl with | [_, _], _ => rfl), ?n, ?na, ?k1, ?k2⟩
      (case a => k_is); (case lC => k_is); (case eC => exact ⟨_, _, _, _, _, _, _, _, _, _, _, _, _, _, rfl⟩); (case lD => k_is); (case lN => k_is); (case hes => simp); (case iD => k_is); (case ini => k_is); (case sa => k_is); (case fn => k_is); (case kp => k_is)
      (case ga => k_is); (case gt => k_is); (case cl => k_is); (case l => k_is); (case c => k_is); (case k => k_is); (case n => k_is)
      (case na => show findIn _ _ _ = some none; k_is)
      (case k1 => kit_is)
      (case k2 => kit_is)
    obtain ⟨a_NoRow, a_NetError, a_NoRow_i, d_NoRow_i, h_NoRow, h_NetError, h_na, h_k1, h_k2⟩ := h_NoRow
    obtain ⟨a_is_name, d_is_name, h_is_name⟩ := h_is_name
    obtain ⟨a_is_strength, d_is_strength, h_is_strength⟩ := h_is_strength
    obtain ⟨a_number_of, d_number_of, h_number_of⟩ := h_number_of
    obtain ⟨a_is_written_number, d_is_written_number, h_is_written_number⟩ := h_is_written_number
    obtain ⟨a_is_made_of, d_is_made_of, h_is_made_of⟩ := h_is_made_of
    obtain ⟨a_l_cell_at, d_l_cell_at, h_l_cell_at⟩ := h_l_cell_at
    obtain ⟨a_l_mix, d_l_mix, h_l_mix⟩ := h_l_mix
    obtain ⟨a_l_text, d_l_text, h_l_text⟩ := h_l_text
    obtain ⟨a_l_number_text, d_l_number_text, h_l_number_text⟩ := h_l_number_text
    obtain ⟨a_l_whole, d_l_whole, h_l_whole⟩ := h_l_whole
    obtain ⟨a_l_is_name, d_l_is_name, h_l_is_name⟩ := h_l_is_name
    obtain ⟨a_l_read, d_l_read, h_l_read⟩ := h_l_read
    obtain ⟨a_l_told, d_l_told, h_l_told⟩ := h_l_told
    obtain ⟨a_l_same, d_l_same, h_l_same⟩ := h_l_same
    obtain ⟨a_law, d_law, h_law, hlaw⟩ := h_law
    obtain ⟨_, c_FIGURES, t_FIGURES, rfl⟩ := c_FIGURES
    obtain ⟨_, c_GREATEST_STRENGTH, t_GREATEST_STRENGTH, rfl⟩ := c_GREATEST_STRENGTH
    obtain ⟨_, c_LETTERS, t_LETTERS, rfl⟩ := c_LETTERS
    obtain ⟨_, c_LONGEST_NAME, t_LONGEST_NAME, rfl⟩ := c_LONGEST_NAME
    obtain ⟨_, c_LONGEST_NUMBER, t_LONGEST_NUMBER, rfl⟩ := c_LONGEST_NUMBER
    have T : K01.Txt (L2.KOf KX) mg ⟨a_is_name, d_is_name, a_is_strength, d_is_strength, a_number_of, d_number_of, a_is_written_number, d_is_written_number, a_is_made_of, d_is_made_of, a_l_cell_at, d_l_cell_at, a_l_mix, d_l_mix, a_l_text, d_l_text, a_l_number_text, d_l_number_text, a_l_whole, d_l_whole, a_l_is_name, d_l_is_name, a_l_read, d_l_read, a_l_told, d_l_told, a_l_same, d_l_same, a_law, d_law, t_FIGURES, t_GREATEST_STRENGTH, t_LETTERS, t_LONGEST_NAME, t_LONGEST_NUMBER, a_NoRow, a_NetError, a_NoRow_i, d_NoRow_i⟩ := ⟨h_is_name, h_is_strength, h_number_of, h_is_written_number, h_is_made_of, h_l_cell_at, h_l_mix, h_l_text, h_l_number_text, h_l_whole, h_l_is_name, h_l_read, h_l_told, h_l_same, h_law, PySem.W.mg_none_of KX G b_all, PySem.W.mg_none_of KX G b_bool, PySem.W.mg_none_of KX G b_int, PySem.W.mg_none_of KX G b_isinstance, PySem.W.mg_none_of KX G b_len, PySem.W.mg_none_of KX G b_max, PySem.W.mg_none_of KX G b_min, PySem.W.mg_none_of KX G b_range, PySem.W.mg_none_of KX G b_str, PySem.W.mg_of KX G c_FIGURES, PySem.W.mg_of KX G c_GREATEST_STRENGTH, PySem.W.mg_of KX G c_LETTERS, PySem.W.mg_of KX G c_LONGEST_NAME, PySem.W.mg_of KX G c_LONGEST_NUMBER, PySem.W.mg_none_of KX G b_ValueError, h_NoRow, PySem.W.mg_of KX G h_NetError, h_na, h_k1, h_k2⟩
    have e0 := hmg.symm.trans T.f_law.mg
    cases e0
    exact ⟨_, hlaw, fun base kb nb => K01.ok_law T⟩
  case S =>
    intro K H a ns hl hO hS
    exact ⟨a, ns, rfl, hS, fun _ => rfl⟩
  case C => exact fun H s e s' h => h

