import PyProof.Rows.All
import Wide.All
import OpenK.AllK
import Wide.FinOn
import Lean
import PyProof.EqAt
import PyProof.EqKinds
import PyProof.TupleCall
import PyProof.InstStoreFacts
import PyProof.ExcArgs
import KE.KIsAll
import KE.RegKIsAll
import KE.IntTextLaws
import OpenK.KOwn
import PyProof.NeKinds
import PyProof.Rows.EqBoolInt
import PyProof.FString5
import PyProof.EnumStmt
import PyProof.ZipIter
import PyProof.SeqI3
import PyProof.AutoListH
import KE.KDictLaws
import PyProof.DictItems
import PyProof.StrOps2
import KE.KRevIter
import KE.KPairComp
import PyProof.SetRoads
import PyProof.Rows.SetFrom
import PyProof.WalkInts
import PyProof.Rows.SumAny
import KE.BitLaws
import PySem.Challenge.RW_spareline_k62_what_is_a_plan_and_keeps
set_option Elab.async false
set_option linter.all false
set_option maxRecDepth 100000
/-! THE HAND LAYER, for ints, bools, texts, own classes, LISTS and tuples (index, slices, in, append, pop ..), calls, loops. Paste it whole ahead of your own text; what your proof does not reach may be deleted. -/
namespace L2
open PySem PySem.Spec PyProof.Rows

/-- a key: an int or a str -/
abbrev Key := Sum Int Str
def keyIs : Key → Value → Bool
  | .inl k, v => Value.isInt k v
  | .inr x, v => Value.isStrOf x v
def keyH (w : World) : Key → Int
  | .inl k => hashInt k
  | .inr x => hashStr w x
theorem keyIs_shape : ∀ {k : Key} {v : Value}, keyIs k v = true → (∃ i t, k = Sum.inl i ∧ v = Value.int i t) ∨ (∃ x t, k = Sum.inr x ∧ v = Value.str x t)
  | .inl i, v, h => by
    obtain ⟨t, e⟩ := Value.isInt_shape (k := i) (v := v) h
    exact .inl ⟨i, t, rfl, e⟩
  | .inr x, v, h => by
    obtain ⟨t, e⟩ := Value.isStrOf_shape (x := x) (v := v) h
    exact .inr ⟨x, t, rfl, e⟩
theorem keyIs_int (i : Int) (t : Tok) : keyIs (.inl i) (.int i t) = true := by simp [keyIs, Value.isInt]
theorem keyIs_str (x : Str) (t : Tok) : keyIs (.inr x) (.str x t) = true := by simp [keyIs, Value.isStrOf]
theorem key_ll (a b : Int) : decide ((Sum.inl a : Key) = Sum.inl b) = (a == b) := by
  by_cases e : a = b
  · subst e; simp
  · have h : ¬ (Sum.inl a : Key) = Sum.inl b := fun q => e (Sum.inl.inj q)
    rw [decide_eq_false h]
    exact (beq_eq_false_iff_ne.mpr e).symm
theorem key_rr (a b : Str) : decide ((Sum.inr a : Key) = Sum.inr b) = decide (a = b) := by
  by_cases e : a = b
  · subst e; simp
  · have h : ¬ (Sum.inr a : Key) = Sum.inr b := fun q => e (Sum.inr.inj q)
    rw [decide_eq_false h, decide_eq_false e]
theorem key_lr (a : Int) (b : Str) : decide ((Sum.inl a : Key) = Sum.inr b) = false := decide_eq_false (fun q => nomatch q)
theorem key_rl (a : Str) (b : Int) : decide ((Sum.inr a : Key) = Sum.inl b) = false := decide_eq_false (fun q => nomatch q)

def mixKind (prog : Program) (w : World) : PySem.KeyKind prog w Key where
  is := keyIs
  hash := keyH w
  inj := fun v a b ha hb => by
    rcases keyIs_shape ha with ⟨i, t, rfl, rfl⟩ | ⟨x, t, rfl, rfl⟩
    · rcases keyIs_shape hb with ⟨j, u, rfl, e⟩ | ⟨y, u, rfl, e⟩
      · injection e with e1 _; rw [e1]
      · exact nomatch e
    · rcases keyIs_shape hb with ⟨j, u, rfl, e⟩ | ⟨y, u, rfl, e⟩
      · exact nomatch e
      · injection e with e1 _; rw [e1]
  byValue := fun k v h => by
    rcases keyIs_shape h with ⟨i, t, rfl, rfl⟩ | ⟨x, t, rfl, rfl⟩ <;> rfl
  pyHash := fun hv h => by
    rcases keyIs_shape hv with ⟨i, t, rfl, rfl⟩ | ⟨x, t, rfl, rfl⟩
    · exact wpAny_pyHash_int h
    · exact wpAny_pyHash_str h
  eqBool := fun hu hv h => by
    rcases keyIs_shape hu with ⟨i, t, rfl, rfl⟩ | ⟨x, t, rfl, rfl⟩
    · rcases keyIs_shape hv with ⟨j, u, rfl, rfl⟩ | ⟨y, u, rfl, rfl⟩
      · rw [key_ll] at h; exact wpAny_eqBool_int h
      · rw [key_lr] at h; exact SeqAt.EqAt.int_str i t y u _ _ _ _ h
    · rcases keyIs_shape hv with ⟨j, u, rfl, rfl⟩ | ⟨y, u, rfl, rfl⟩
      · rw [key_rl] at h; exact SeqAt.EqAt.str_int x t j u _ _ _ _ h
      · rw [key_rr] at h; exact wpAny_eqBool_str h
  «strs» := fun k x t v h => by
    rcases keyIs_shape h with ⟨i, u, rfl, e⟩ | ⟨y, u, rfl, e⟩
    · exact nomatch e
    · injection e with e1 _
      subst e1
      cases v <;> rfl

theorem mixKind_int (prog : Program) (w : World) (i : Int) (t : Tok) : (mixKind prog w).is (.inl i) (.int i t) = true := keyIs_int i t
theorem mixKind_str (prog : Program) (w : World) (x : Str) (t : Tok) : (mixKind prog w).is (.inr x) (.str x t) = true := keyIs_str x t
end L2

namespace L2
open PySem PySem.Spec PyProof.Rows

/-- a value, without the heap -/
inductive V where
  | non | bl (b : Bool) | int (i : Int) | str (x : Str) | byt (b : Array UInt8) | flt (b : UInt64) | ref (a : Addr) | ty (n : String)
  deriving DecidableEq

def RelV : V → Value → Prop
  | .non, u => u = Value.none
  | .bl b, u => u = Value.bool b
  | .int i, u => ∃ t, u = Value.int i t
  | .str x, u => ∃ t, u = Value.str x t
  | .byt b, u => ∃ t, u = Value.bytes b t
  | .flt b, u => ∃ t, u = Value.float b t
  | .ref a, u => u = Value.ref a
  | .ty n, u => u = Value.type n

abbrev Vals : List V → List Value → Prop := Paired RelV
theorem Vals.length {xs : List V} {us : List Value} (r : Vals xs us) : xs.length = us.length := Paired.length r
theorem Vals.get : ∀ {xs : List V} {us : List Value} {i : Nat} {x : V}, Vals xs us → xs[i]? = some x → ∃ u, us[i]? = some u ∧ RelV x u
  | _, _, _, _, .nil, e => by simp at e
  | _, _, 0, _, .cons r _, e => by simp at e; subst e; exact ⟨_, rfl, r⟩
  | _, _, i + 1, x, .cons _ t, e => by
    obtain ⟨u, h1, h2⟩ := Vals.get (i := i) (x := x) t (by simpa using e)
    exact ⟨u, by simpa using h1, h2⟩
theorem Vals.set {x : V} {u : Value} (r : RelV x u) : ∀ {xs : List V} {us : List Value} (i : Nat), Vals xs us → Vals (xs.set i x) (us.set i u)
  | _, _, _, .nil => .nil
  | _, _, 0, .cons _ t => .cons r t
  | _, _, i + 1, .cons q t => .cons q (Vals.set r i t)
theorem Vals.append : ∀ {xs ys : List V} {us ws : List Value}, Vals xs us → Vals ys ws → Vals (xs ++ ys) (us ++ ws)
  | _, _, _, _, .nil, s => s
  | _, _, _, _, .cons r t, s => .cons r (Vals.append t s)
theorem Vals.take : ∀ {xs : List V} {us : List Value} (n : Nat), Vals xs us → Vals (xs.take n) (us.take n)
  | _, _, 0, _ => .nil
  | _, _, _ + 1, .nil => .nil
  | _, _, n + 1, .cons r t => .cons r (Vals.take n t)
theorem Vals.drop : ∀ {xs : List V} {us : List Value} (n : Nat), Vals xs us → Vals (xs.drop n) (us.drop n)
  | _, _, 0, r => r
  | _, _, _ + 1, .nil => .nil
  | _, _, n + 1, .cons _ t => Vals.drop n t
theorem Vals.none_of : ∀ {xs : List V} {us : List Value} {i : Nat}, Vals xs us → xs[i]? = none → us[i]? = none := fun {xs us i} r e => by
  have h1 := r.length
  have h2 : xs.length ≤ i := List.getElem?_eq_none_iff.mp e
  exact List.getElem?_eq_none_iff.mpr (by omega)

def RelO : Option V → Option Value → Prop
  | some v, some u => RelV v u
  | none, none => True
  | _, _ => False
def KV {κ : Type} : List (κ × V) → List (κ × Value) → Prop := Paired fun (p : κ × V) (q : κ × Value) => p.1 = q.1 ∧ RelV p.2 q.2

/-- a key of a dict (00_mix): an int or a text -/
def kV : Key → V
  | .inl i => .int i
  | .inr x => .str x

/-- what stands at a tracked address -/
inductive HO where
  /-- a list -/
  | lst (xs : List V)
  /-- a tuple (never changes) -/
  | tup (xs : List V)
  /-- a dict whose keys are ints and texts; one whose keys are tuples of ints and texts (the empty one is both) -/
  | dK (kvs : List (Key × V)) | dT (kvs : List (List Key × V))
  /-- a set of ints: its members, its size -/
  | set (S : Int → Bool) (n : Nat)
  /-- an instance of the class at C, its dict at dx, its attributes -/
  | ins (C dx : Addr) (fs : List (Str × V))
  /-- the dict of the instance at x -/
  | own (x : Addr)
  /-- the dict of an exception -/
  | xd (fs : List (Str × V))
  /-- a bound method, f of x -/
  | met (f x : Addr)
  /-- a range object lo, lo + 1, .. below hi -/
  | rng (lo hi : Int)
  /-- a thing that is known to the object (the script; a dict while a loop walks it): read, never written while it is so -/
  | frz (o : Obj) (u : HO)
  /-- a code object's table -/
  | tbl (ps : Array Value)
  /-- any other thing, by what is true of its one object (a def of one's own: SetO a S n := HO.ext fun h => ..) -/
  | ext (φ : Heap → Prop)

abbrev Hp := Addr → Option HO
def upd (H : Hp) (a : Addr) (o : HO) : Hp := fun b => if b = a then some o else H b
theorem upd_same {H : Hp} {a : Addr} {o : HO} : upd H a o a = some o := by unfold upd; rw [if_pos rfl]
theorem upd_ne {H : Hp} {a b : Addr} {o : HO} (h : b ≠ a) : upd H a o b = H b := by unfold upd; rw [if_neg h]
theorem upd_upd {H : Hp} {a : Addr} {o u : HO} : upd (upd H a o) a u = upd H a u := by
  funext b; unfold upd; split <;> rfl
/-- two objects of different content stand apart -/
theorem ne_of {H : Hp} {a b : Addr} {o u : HO} (h : H a = some o) (h' : H b = some u) (d : o ≠ u) : a ≠ b := by
  intro e; subst e; rw [h] at h'; exact d (Option.some.inj h')
theorem ne_of_none {H : Hp} {a b : Addr} {o : HO} (h : H a = some o) (h' : H b = none) : a ≠ b := by
  intro e; subst e; rw [h] at h'; cases h'

section
variable (P : Program) (w : World)
def ObjOk (H : Hp) (h : Heap) (a : Addr) : HO → Prop
  | .lst xs => xs.length ≤ sizeLine ∧ ∃ (its : List Value) (n : Nat), Vals xs its ∧ h.get? a = some { cls := .type "list", data := .seq its.toArray n }
  | .tup xs => xs.length ≤ sizeLine ∧ ∃ its : List Value, Vals xs its ∧ IsTup h a its.toArray
  | .dK kvs => kvs.length ≤ sizeLine ∧ (a == sysModules) = false ∧ ∃ vs, KV kvs vs ∧ h.DictOf (mixKind P w) a vs
  | .dT kvs => kvs.length ≤ sizeLine ∧ (a == sysModules) = false ∧ ∃ xs : List (List Key × Addr × Value),
      Paired (fun (p : List Key × V) (q : List Key × Addr × Value) => p.1 = q.1 ∧ H q.2.1 = some (.tup (p.1.map kV)) ∧ RelV p.2 q.2.2) kvs xs ∧
      ∃ o es ep, h.get? a = some o ∧ o.ExactDict ∧ o.data = .dict es ep ∧ es.toList = xs.map (entryOfKey (tupleKind (mixKind P w))) ∧ (xs.map (·.1)).Nodup
  | .set S n => h.SetOf (intKind P w) a S n
  | .ins C dx fs => H dx = some (.own a) ∧ fs.length ≤ 1000 ∧ dx ≠ a ∧ h.get? a = some (PySem.W.instObj C dx) ∧
      ∃ mA, h.Ns1 dx mA ∧ (∀ f, RelO (fs.lookup f) (mA f)) ∧ PySem.Within mA (fs.map (·.1))
  | .own _ => ∃ o, h.get? a = some o
  | .xd fs => ∃ mA, h.Ns1 a mA ∧ ∀ f, RelO (fs.lookup f) (mA f)
  | .rng lo hi => ∃ t u v, h.get? a = some { cls := .type "range", data := .fields #[.int lo t, .int hi u, .int 1 v] }
  | .frz o u => h.get? a = some o ∧ ObjOk H h a u
  | .tbl ps => h.get? a = some { cls := .none, data := .fields ps }
  | .met f x => h.get? a = some (PySem.W.methodObj (.ref f) (.ref x))
  | .ext φ => φ h ∧ (∃ o, h.get? a = some o) ∧ ∀ h1 h2 : Heap, φ h1 → (∀ o, h1.get? a = some o → h2.get? a = some o) → φ h2
/-- the abstract heap is held -/
def HOk (H : Hp) (h : Heap) : Prop := ∀ a o, H a = some o → ObjOk P w H h a o
end

section
variable {P : Program} {w : World} {H H' : Hp} {h h' : Heap} {a : Addr} {o : HO}
theorem ObjOk.lt (x : ObjOk P w H h a o) : a < h.objs.size := by
  cases o with
  | lst xs => obtain ⟨_, _, _, _, e⟩ := x; exact Heap.lt_size e
  | tup xs => obtain ⟨_, _, _, p⟩ := x; exact p.lt
  | dK kvs => obtain ⟨_, _, _, _, o, _, _, e, _⟩ := x; exact Heap.lt_size e
  | dT kvs => obtain ⟨_, _, _, _, o, _, _, e, _⟩ := x; exact Heap.lt_size e
  | set S n => obtain ⟨o, _, _, _, e, _⟩ := x; exact Heap.lt_size e
  | ins C dx fs => obtain ⟨_, _, _, e, _⟩ := x; exact Heap.lt_size e
  | own y => obtain ⟨_, e⟩ := x; exact Heap.lt_size e
  | xd fs => obtain ⟨_, ⟨_, _, _, e, _⟩, _⟩ := x; exact Heap.lt_size e
  | rng lo hi => obtain ⟨_, _, _, e⟩ := x; exact Heap.lt_size e
  | frz ob u => obtain ⟨e, _⟩ := x; exact Heap.lt_size e
  | tbl ps => exact Heap.lt_size (show h.get? a = some _ from x)
  | met f y => exact Heap.lt_size (show h.get? a = some _ from x)
  | ext φ => obtain ⟨_, ⟨_, e⟩, _⟩ := x; exact Heap.lt_size e
theorem Paired.mapP {α β : Type} {F G : α → β → Prop} : ∀ {l₁ : List α} {l₂ : List β}, Paired F l₁ l₂ → (∀ a b, F a b → G a b) → Paired G l₁ l₂
  | _, _, .nil, _ => .nil
  | _, _, .cons r t, f => .cons (f _ _ r) (Paired.mapP t f)
/-- what an object's description leans on: its own object, its own dict, the tuples -/
theorem ObjOk.stay (x : ObjOk P w H h a o) (k : ∀ b u, (b = a ∨ H b = some (.own a)) → h.get? b = some u → h'.get? b = some u)
    (ho : ∀ b, H b = some (.own a) → H' b = some (.own a)) (ht : ∀ b xs, H b = some (.tup xs) → H' b = some (.tup xs)) : ObjOk P w H' h' a o := by
  induction o with
  | lst xs => obtain ⟨z, its, n, r, e⟩ := x; exact ⟨z, its, n, r, k _ _ (.inl rfl) e⟩
  | tup xs => obtain ⟨z, its, r, ob, e, c⟩ := x; exact ⟨z, its, r, ob, k _ _ (.inl rfl) e, c⟩
  | dK kvs => obtain ⟨z, y, vs, r, ob, es, ep, e, c⟩ := x; exact ⟨z, y, vs, r, ob, es, ep, k _ _ (.inl rfl) e, c⟩
  | dT kvs =>
    obtain ⟨z, y, xs, r, ob, es, ep, e, c⟩ := x
    exact ⟨z, y, xs, Paired.mapP r fun p q z => ⟨z.1, ht _ _ z.2.1, z.2.2⟩, ob, es, ep, k _ _ (.inl rfl) e, c⟩
  | set S n => obtain ⟨ob, es, ep, t, e, c⟩ := x; exact ⟨ob, es, ep, t, k _ _ (.inl rfl) e, c⟩
  | ins C dx fs =>
    obtain ⟨d, z, ne, e, mA, ⟨od, es, ep, e2, c⟩, r⟩ := x
    exact ⟨ho _ d, z, ne, k _ _ (.inl rfl) e, mA, ⟨od, es, ep, k _ _ (.inr d) e2, c⟩, r⟩
  | own y => obtain ⟨ob, e⟩ := x; exact ⟨ob, k _ _ (.inl rfl) e⟩
  | xd fs => obtain ⟨mA, ⟨od, es, ep, e, c⟩, r⟩ := x; exact ⟨mA, ⟨od, es, ep, k _ _ (.inl rfl) e, c⟩, r⟩
  | rng lo hi => obtain ⟨t, u, v, e⟩ := x; exact ⟨t, u, v, k _ _ (.inl rfl) e⟩
  | frz ob u ih => obtain ⟨e, q⟩ := x; exact ⟨k _ _ (.inl rfl) e, ih q⟩
  | tbl ps =>
    have e : h.get? a = some { cls := .none, data := .fields ps } := x
    show h'.get? a = some { cls := .none, data := .fields ps }
    exact k a _ (.inl rfl) e
  | met f y =>
    have e : h.get? a = some (PySem.W.methodObj (.ref f) (.ref y)) := x
    show h'.get? a = some (PySem.W.methodObj (.ref f) (.ref y))
    exact k a _ (.inl rfl) e
  | ext φ => obtain ⟨p, ⟨o, e⟩, st⟩ := x; exact ⟨st _ _ p fun o q => k _ _ (.inl rfl) q, ⟨o, k _ _ (.inl rfl) e⟩, st⟩
theorem HOk.lt (x : HOk P w H h) (e : H a = some o) : a < h.objs.size := (x a o e).lt
theorem HOk.fresh (x : HOk P w H h) (e : h.objs.size ≤ a) : H a = none := by
  cases q : H a with
  | none => rfl
  | some u => exact absurd (Nat.lt_of_lt_of_le (x.lt q) e) (Nat.lt_irrefl _)
/-- every object of the heap is kept -/
theorem HOk.kept (x : HOk P w H h) (k : ∀ b u, h.get? b = some u → h'.get? b = some u) : HOk P w H h' := fun a o e =>
  (x a o e).stay (fun b u _ q => k b u q) (fun _ q => q) fun _ _ q => q
/-- a new object is laid and tracked -/
theorem HOk.laid (x : HOk P w H h) (k : ∀ b u, h.get? b = some u → h'.get? b = some u) (hp : h.objs.size ≤ a) (new : ObjOk P w (upd H a o) h' a o) : HOk P w (upd H a o) h' := fun b u e => by
  have hn := x.fresh hp
  by_cases hb : b = a
  · subst hb; rw [upd_same] at e; cases e; exact new
  · rw [upd_ne hb] at e
    exact (x b u e).stay (fun c v _ q => k c v q) (fun c q => by rw [upd_ne (ne_of_none q hn)]; exact q) fun c xs q => by rw [upd_ne (ne_of_none q hn)]; exact q
end

/-- what may be read as u: it is u, or a known u -/
def Rd (H : Hp) (a : Addr) (u : HO) : Prop := H a = some u ∨ ∃ o, H a = some (.frz o u)
theorem Rd.of {H : Hp} {a : Addr} {u : HO} (h : H a = some u) : Rd H a u := .inl h
theorem Rd.ok {P : Program} {w : World} {H : Hp} {h : Heap} {a : Addr} {u : HO} (r : Rd H a u) (x : HOk P w H h) : ObjOk P w H h a u := by
  rcases r with r | ⟨o, r⟩
  · exact x a u r
  · obtain ⟨_, q⟩ := x a _ r
    exact q
/-- what may be written -/
def Mut : Option HO → Prop
  | some (.lst _) => True
  | some (.dK _) => True
  | some (.dT _) => True
  | some (.set _ _) => True
  | some (.ins _ _ _) => True
  | some (.ext _) => True
  | _ => False
section
variable {P : Program} {w : World} {H : Hp} {h h' : Heap} {x e : Addr} {o' : HO}
/-- the object at e is changed: x itself, or the dict of the instance x -/
theorem HOk.write (ok : HOk P w H h) (mu : Mut (H x)) (he : e = x ∨ H e = some (.own x)) (k : ∀ b u, b ≠ e → h.get? b = some u → h'.get? b = some u) (heo : ∃ u, h'.get? e = some u)
    (new : ObjOk P w (upd H x o') h' x o') : HOk P w (upd H x o') h' := fun b u q => by
  have nown : ∀ c y, H c = some (.own y) → c ≠ x := fun c y r z => by subst z; rw [r] at mu; exact mu
  have ntup : ∀ c xs, H c = some (.tup xs) → c ≠ x := fun c xs r z => by subst z; rw [r] at mu; exact mu
  by_cases hb : b = x
  · subst hb; rw [upd_same] at q; cases q; exact new
  · rw [upd_ne hb] at q
    by_cases hbe : b = e
    · have q' : H b = some (.own x) := by
        rcases he with z | z
        · exact absurd (hbe.trans z) hb
        · rw [hbe]; exact z
      rw [q] at q'; cases q'
      obtain ⟨v, hv⟩ := heo
      exact ⟨v, by rw [hbe]; exact hv⟩
    · refine (ok b u q).stay (fun c v hc r => k c v ?_ r) (fun c r => by rw [upd_ne (nown c b r)]; exact r) fun c xs r => by rw [upd_ne (ntup c xs r)]; exact r
      rcases hc with rfl | hc
      · exact hbe
      · rintro rfl
        rcases he with z | z
        · exact nown c b hc z
        · rw [hc] at z; cases z; exact hb rfl
end

/-! ### kept unless tracked; of the frames at fs (the callers') the slots may change (an exception that passes writes there); of the records at ex (iterators) nothing is said -/
structure Un (fs ex : List Addr) (H H' : Hp) (h h' : Heap) : Prop where
  keep : ∀ b o, h.get? b = some o → H b = none → b ∉ fs → b ∉ ex → h'.get? b = some o
  slot : ∀ b o, h.get? b = some o → H b = none → b ∈ fs → b ∉ ex → ∃ sl, h'.get? b = some { o with slots := sl }
  free : ∀ b o, h.get? b = some o → H b = none → b ∉ ex → H' b = none
  there : ∀ b o, h.get? b = some o → b ∉ ex → ∃ o', h'.get? b = some o'
  tups : ∀ b xs, H b = some (.tup xs) → H' b = some (.tup xs)
  frzs : ∀ b o u, H b = some (.frz o u) → H' b = some (.frz o u)
  tbls : ∀ b ps, H b = some (.tbl ps) → ∃ more, H' b = some (.tbl (ps ++ more))
section
variable {fs fs' ex ex' : List Addr} {H H1 H2 : Hp} {h h1 h2 h' : Heap} {a x e : Addr} {o : HO}
theorem Un.any (u : Un fs ex H H1 h h1) {b : Addr} {ob : Obj} (q : h.get? b = some ob) (n : H b = none) (hx : b ∉ ex) : ∃ sl, h1.get? b = some { ob with slots := sl } := by
  by_cases hb : b ∈ fs
  · exact u.slot b ob q n hb hx
  · exact ⟨ob.slots, u.keep b ob q n hb hx⟩
theorem Un.trans (a : Un fs ex H H1 h h1) (b : Un fs ex H1 H2 h1 h2) : Un fs ex H H2 h h2 where
  keep := fun c ob q n hc hx => b.keep c ob (a.keep c ob q n hc hx) (a.free c ob q n hx) hc hx
  slot := fun c ob q n hc hx => by
    obtain ⟨sl, e1⟩ := a.slot c ob q n hc hx
    obtain ⟨sl', e2⟩ := b.slot c _ e1 (a.free c ob q n hx) hc hx
    exact ⟨sl', e2⟩
  free := fun c ob q n hx => by
    obtain ⟨o', e1⟩ := a.there c ob q hx
    exact b.free c o' e1 (a.free c ob q n hx) hx
  there := fun c ob q hx => by
    obtain ⟨o', e1⟩ := a.there c ob q hx
    exact b.there c o' e1 hx
  tups := fun c xs q => b.tups c xs (a.tups c xs q)
  frzs := fun c ob xs q => b.frzs c ob xs (a.frzs c ob xs q)
  tbls := fun c ps q => by
    obtain ⟨m1, e1⟩ := a.tbls c ps q
    obtain ⟨m2, e2⟩ := b.tbls c _ e1
    exact ⟨m1 ++ m2, by rw [e2, Array.append_assoc]⟩
theorem Un.kept (k : ∀ b u, h.get? b = some u → h'.get? b = some u) : Un fs ex H H h h' :=
  ⟨fun b ob q _ _ _ => k b ob q, fun b ob q _ _ _ => ⟨ob.slots, k b ob q⟩, fun _ _ _ n _ => n, fun b ob q _ => ⟨ob, k b ob q⟩, fun _ _ q => q, fun _ _ _ q => q, fun _ ps q => ⟨#[], by rw [q]; simp⟩⟩
theorem Un.refl : Un fs ex H H h h := Un.kept fun _ _ q => q
theorem Un.laid (k : ∀ b u, h.get? b = some u → h'.get? b = some u) (hp : h.objs.size ≤ a) (hn : H a = none) : Un fs ex H (upd H a o) h h' where
  keep := fun b u q _ _ _ => k b u q
  slot := fun b u q _ _ _ => ⟨u.slots, k b u q⟩
  free := fun b u q n _ => by rw [upd_ne (Nat.ne_of_lt (Nat.lt_of_lt_of_le (Heap.lt_size q) hp))]; exact n
  there := fun b u q _ => ⟨u, k b u q⟩
  tups := fun b xs q => by rw [upd_ne (ne_of_none q hn)]; exact q
  frzs := fun b u xs q => by rw [upd_ne (ne_of_none q hn)]; exact q
  tbls := fun b ps q => ⟨#[], by rw [upd_ne (ne_of_none q hn), q]; simp⟩
theorem Un.write (mu : Mut (H x)) (he : e = x ∨ H e = some (.own x)) (k : ∀ b u, b ≠ e → h.get? b = some u → h'.get? b = some u) (heo : ∃ u, h'.get? e = some u) : Un fs ex H (upd H x o) h h' := by
  have hx : ∀ b, H b = none → b ≠ x := fun b n z => by subst z; rw [n] at mu; exact mu
  have hb : ∀ b, H b = none → b ≠ e := fun b n z => by
    subst z
    rcases he with r | r
    · exact hx b n r
    · rw [n] at r; cases r
  have hm : ∀ b u, H b = some u → ¬ Mut (some u) → b ≠ x := fun b u q nm z => by subst z; rw [q] at mu; exact nm mu
  refine ⟨fun b u q n _ _ => k b u (hb b n) q, fun b u q n _ _ => ⟨u.slots, k b u (hb b n) q⟩, fun b u q n _ => by rw [upd_ne (hx b n)]; exact n, fun b u q _ => ?_,
    fun b xs q => by rw [upd_ne (hm b _ q fun z => z)]; exact q, fun b u xs q => by rw [upd_ne (hm b _ q fun z => z)]; exact q, fun b ps q => ⟨#[], by rw [upd_ne (hm b _ q fun z => z), q]; simp⟩⟩
  by_cases hbe : b = e
  · subst hbe; exact heo
  · exact ⟨u, k b u hbe q⟩
theorem Un.mono (u : Un fs ex H H1 h h1) (hs : ∀ b ∈ fs, b ∈ fs') (hx : ∀ b ∈ ex, b ∈ ex') : Un fs' ex' H H1 h h1 :=
  ⟨fun b ob q n hb he => u.keep b ob q n (fun z => hb (hs b z)) fun z => he (hx b z), fun _ _ q n _ he => u.any q n fun z => he (hx _ z), fun b ob q n he => u.free b ob q n fun z => he (hx b z), fun b ob q he => u.there b ob q fun z => he (hx b z), u.tups, u.frzs, u.tbls⟩
end

/-! ### the heap without what is tracked -/
def trk (h : Heap) (H : Hp) : List Addr := (List.range h.objs.size).filter fun a => (H a).isSome
def hidT (h : Heap) (H : Hp) : Heap := PySem.W.hideAll h (trk h H)
theorem hidT_size (h : Heap) (H : Hp) : (hidT h H).objs.size = h.objs.size := PySem.W.hideAll_size _ _
theorem hidT_get {h : Heap} {H : Hp} {b : Addr} {o : Obj} (e : h.get? b = some o) (n : H b = none) : (hidT h H).get? b = some o :=
  PySem.W.hideAll_get _ e fun hm => by
    have q : (H b).isSome = true := (List.mem_filter.mp hm).2
    rw [n] at q; simp at q
theorem of_hidT {h : Heap} {H : Hp} {b : Addr} {o : Obj} (e : (hidT h H).get? b = some o) : h.get? b = some o ∧ H b = none := by
  have e' : h.get? b = some o := PySem.W.of_hideAll (trk h H) e
  refine ⟨e', ?_⟩
  cases q : H b with
  | none => rfl
  | some x =>
    have hm : b ∈ trk h H := List.mem_filter.mpr ⟨List.mem_range.mpr (Heap.lt_size e'), by simp [q]⟩
    have z : (hidT h H).get? b = none := PySem.W.hideAll_none (trk h H) hm
    rw [z] at e; cases e

/-! ### OpenK's ledger, filled with every new object but one -/
def allNews (g h : Heap) (L : Addr) : List (Addr × Obj) := (List.range h.objs.size).filterMap fun a => if a = L ∨ (g.get? a).isSome = true then none else (h.get? a).map fun o => (a, o)
def rest (g h : Heap) (L d : Addr) : List (Addr × Obj) := (allNews g h L).filter fun p => decide (p.1 ≠ d)
end L2

namespace L2
open PySem PySem.Spec PyProof.Rows

/-- the module's facts, over the base: the heap at the law's entry without what is tracked there -/
structure Mod (K : PySem.W.Frag) (mg : Str → Option Value) (base : Heap) : Prop where
  kin : K.In base
  glob : base.Ns mainGlobals mg
  blt : ∃ mb, base.Ns builtinsNs mb ∧ ∀ x : Str, x ≠ "__name__" → mb x = bootBuiltins x
  nolimit : base.NoLimit

/-- the context: a def's body (or a comprehension's block) running. base: fixed through the whole law; s₀, H₀: the entry; outer: the frames whose slots others may change (a def's callers); stack: all frames that run;
   ex: iterators that were made ahead of the entry and are walked here (a comprehension's); fn: the names whose cells were made at the entry (a def: all; a comprehension's block: its own); calm: not within an except suite; pn: pins that every state bears; xe: what is wanted of an exception that leaves the code -/
structure Cx where
  prog : Program
  w : World
  K : PySem.W.Frag
  mg : Str → Option Value
  base : Heap
  A : Around
  N : List Str
  s₀ : Shared
  H₀ : Hp
  env : Env
  outer : List Env
  stack : List Env
  ex : List Addr
  fn : Str → Bool
  calm : Bool
  pn : List (Addr × Obj)
  xe : Value → Shared → Prop
/-- the callers' frames -/
def frs (l : List Env) : List Addr := l.filterMap (·.frame)
abbrev Cx.fs (X : Cx) : List Addr := frs X.outer

def Vis (sc : Scope) (x : Str) : Prop := sc.names.lookup x = some .local ∨ sc.names.lookup x = some .cell ∨ sc.names.lookup x = some .free
def Loc (sc : Scope) (x : Str) : Prop := sc.names.lookup x = some .local ∨ sc.names.lookup x = some .cell
def Look (env : Env) (h : Heap) (m : Str → Option Value) (x : Str) (u : Value) : Prop :=
  (env.kindOf x = some .local ∧ m x = some u) ∨ ((env.kindOf x = some .cell ∨ env.kindOf x = some .free) ∧ ∃ c, env.cells.lookup x = some c ∧ h.IsCell c (some u))

structure Cx.Ok (X : Cx) : Prop where
  mod : Mod X.K X.mg X.base
  kind : X.env.scope.kind = .function
  glob : X.env.globals = mainGlobals
  blt : X.env.builtins = builtinsNs
  above : X.s₀.heap.objs.size ≤ X.env.locals
  inj : ∀ x y c, X.env.cells.lookup x = some c → X.env.cells.lookup y = some c → x = y
  has : ∀ x, (X.env.kindOf x = some .cell ∨ X.env.kindOf x = some .free) → ∃ c, X.env.cells.lookup x = some c
  cab : ∀ x c, X.fn x = true → X.env.cells.lookup x = some c → X.s₀.heap.objs.size ≤ c
  hd : X.calm = true → X.A.handled = none
  frames : X.A.frames = some X.stack
  stk : X.stack = X.outer ∨ (X.stack = X.env :: X.outer ∧ X.env.frame = some X.env.locals)
  exf : ∀ b ∈ X.ex, b ≠ X.env.locals ∧ ∀ x c, X.env.cells.lookup x = some c → c ≠ b
  bs : ∀ b o, X.base.get? b = some o → X.s₀.heap.get? b = some o ∧ X.H₀ b = none
  bsz : X.base.objs.size ≤ X.s₀.heap.objs.size
  noex : ∀ b o, X.base.get? b = some o → b ∉ X.ex
  exfs : ∀ b ∈ X.ex, b ∉ X.fs
  funs : X.s₀.heap.FunFrames X.base X.outer
  frf : ∀ b ∈ X.fs, X.H₀ b = none

structure Inv (X : Cx) (pins : List (Addr × Obj)) (σ : List (Option V)) (H : Hp) (s : Shared) : Prop where
  ok : X.Ok
  os : s.os = X.s₀.os
  bare : AllBare s.gens
  base : Un X.fs X.ex X.H₀ H X.s₀.heap s.heap
  loc : ∃ m, s.heap.Ns X.env.locals m ∧ ∀ (i : Nat) (x : Str) (v : V), X.N[i]? = some x → σ[i]? = some (some v) → Vis X.env.scope x → ∃ u, RelV v u ∧ Look X.env s.heap m x u
  cell : ∀ x c, X.env.cells.lookup x = some c → ∃ v, s.heap.IsCell c v
  free : H X.env.locals = none
  freeC : ∀ x c, X.env.cells.lookup x = some c → H c = none
  pin : ∀ p ∈ X.pn ++ pins, s.heap.get? p.1 = some p.2 ∧ H p.1 = none ∧ p.1 ≠ X.env.locals ∧ p.1 ∉ X.fs ∧ ∀ v, p.2.data ≠ .cell v
  hok : HOk X.prog X.w H s.heap
  len : σ.length = X.N.length

section
variable {X : Cx} {pins : List (Addr × Obj)} {σ : List (Option V)} {H H' : Hp} {s : Shared} {h' : Heap}

theorem Cx.Ok.nofr (ok : X.Ok) {b : Addr} {o : Obj} (e : X.base.get? b = some o) : b ∉ X.fs := fun hb => by
  have := (ok.funs.mem hb).1
  rw [e] at this; cases this
theorem Inv.bs (I : Inv X pins σ H s) : ∀ b o, X.base.get? b = some o → s.heap.get? b = some o ∧ H b = none := fun b o e =>
  ⟨I.base.keep b o (I.ok.bs b o e).1 (I.ok.bs b o e).2 (I.ok.nofr e) (I.ok.noex b o e), I.base.free b o (I.ok.bs b o e).1 (I.ok.bs b o e).2 (I.ok.noex b o e)⟩
theorem Inv.bk (I : Inv X pins σ H s) : ∀ b o, X.base.get? b = some o → s.heap.get? b = some o := fun b o e => (I.bs b o e).1
theorem Inv.mod (I : Inv X pins σ H s) : Mod X.K X.mg X.base := I.ok.mod
theorem Inv.kIn (I : Inv X pins σ H s) : X.K.In s.heap := I.ok.mod.kin.keeps I.bk
theorem Inv.nolimit (I : Inv X pins σ H s) : s.heap.NoLimit := I.ok.mod.nolimit.keeps I.bk
theorem Inv.lt (I : Inv X pins σ H s) : X.env.locals < s.heap.objs.size := let ⟨_, hn, _⟩ := I.loc; hn.lt
theorem Inv.sz (I : Inv X pins σ H s) : X.s₀.heap.objs.size ≤ s.heap.objs.size := Nat.le_trans I.ok.above (Nat.le_of_lt I.lt)
theorem Inv.nofs (I : Inv X pins σ H s) {a : Addr} (h : s.heap.objs.size ≤ a) : a ∉ X.fs := fun hb => by
  obtain ⟨_, o, ho, _⟩ := I.ok.funs.mem hb
  exact absurd (Nat.lt_of_lt_of_le (Heap.lt_size ho) (Nat.le_trans I.sz h)) (Nat.lt_irrefl _)
theorem Inv.cne (I : Inv X pins σ H s) : ∀ x c, X.env.cells.lookup x = some c → c ≠ X.env.locals := fun x c e z => by
  obtain ⟨v, o, ho, hd⟩ := I.cell x c e
  obtain ⟨m, ⟨o', es, ep, ho', hd', _⟩, _⟩ := I.loc
  rw [z, ho'] at ho; cases ho; rw [hd'] at hd; cases hd
theorem Inv.funs (I : Inv X pins σ H s) : s.heap.FunFrames X.base X.outer := by
  have all : ∀ (l : List Env), (∀ b ∈ frs l, b ∈ X.fs) → X.s₀.heap.FunFrames X.base l → s.heap.FunFrames X.base l := by
    intro l
    induction l with
    | nil => intro _ _; trivial
    | cons env r ih =>
      intro hs hl
      obtain ⟨hk, ⟨L, o, hf, hn, ho, hd⟩, hr⟩ := hl
      have hL : L ∈ X.fs := hs L (by unfold frs; rw [List.filterMap_cons, hf]; exact List.mem_cons_self)
      obtain ⟨sl, e⟩ := I.base.slot L o ho (I.ok.frf L hL) hL fun z => I.ok.exfs L z hL
      exact ⟨hk, ⟨L, _, hf, hn, e, hd⟩, ih (fun b hb => hs b (by unfold frs; rw [List.filterMap_cons, hf]; exact List.mem_cons_of_mem _ hb)) hr⟩
  exact all X.outer (fun _ hb => hb) I.ok.funs

/-- the frames that run, for a call -/
theorem Inv.stack (I : Inv X pins σ H s) : s.heap.FunFrames X.base X.stack := by
  rcases I.ok.stk with e | ⟨e, hf⟩
  · rw [e]; exact I.funs
  · rw [e]
    obtain ⟨m, hn, _⟩ := I.loc
    refine .cons (by rw [I.ok.kind]; decide) hf hn ?_ I.funs
    exact Heap.get?_none_of_le (Nat.le_trans I.ok.bsz I.ok.above)
theorem Inv.stkSub (I : Inv X pins σ H s) : ∀ b ∈ frs X.stack, b ∈ X.env.locals :: X.fs := fun b hb => by
  rcases I.ok.stk with e | ⟨e, hf⟩
  · rw [e] at hb; exact List.mem_cons_of_mem _ hb
  · rw [e] at hb
    unfold frs at hb
    rw [List.filterMap_cons, hf] at hb
    exact hb
theorem Inv.stkFree (I : Inv X pins σ H s) : ∀ b ∈ frs X.stack, H b = none := fun b hb => by
  rcases List.mem_cons.mp (I.stkSub b hb) with e | hb
  · rw [e]; exact I.free
  · obtain ⟨_, o, ho, _⟩ := I.ok.funs.mem hb
    exact I.base.free b o ho (I.ok.frf b hb) fun z => I.ok.exfs b z hb

/-- THE STEP: the untracked objects but the frame and the records at ch are kept (the callers' frames up to slots), the frame's map is kept, the new abstract heap is held -/
theorem Inv.step {g' : Array GenState} {t' : Nat} {d' : Drawn} {ch : List Addr} (I : Inv X pins σ H s)
    (hch : ∀ b ∈ ch, (b ∈ X.ex ∨ X.s₀.heap.objs.size ≤ b) ∧ b ≠ X.env.locals ∧ (∀ x c, X.env.cells.lookup x = some c → c ≠ b) ∧ ∀ p ∈ X.pn ++ pins, p.1 ≠ b)
    (keep : ∀ b o, b ≠ X.env.locals → b ∉ X.fs → b ∉ ch → s.heap.get? b = some o → H b = none → h'.get? b = some o)
    (slot : ∀ b o, b ≠ X.env.locals → b ∈ X.fs → b ∉ ch → s.heap.get? b = some o → H b = none → ∃ sl, h'.get? b = some { o with slots := sl }) (free : ∀ b o, b ∉ ch → s.heap.get? b = some o → H b = none → H' b = none)
    (there : ∀ b o, b ∉ ch → s.heap.get? b = some o → ∃ o', h'.get? b = some o')
    (tups : ∀ b xs, H b = some (.tup xs) → H' b = some (.tup xs)) (frzs : ∀ b o u, H b = some (.frz o u) → H' b = some (.frz o u)) (tbls : ∀ b ps, H b = some (.tbl ps) → ∃ more, H' b = some (.tbl (ps ++ more)))
    (ns : ∀ m, s.heap.Ns X.env.locals m → h'.Ns X.env.locals m) (hok : HOk X.prog X.w H' h') (hg : AllBare g') :
    Inv X pins σ H' { s with heap := h', gens := g', drawn := d', toks := t' } := by
  have neL : ∀ b o, X.s₀.heap.get? b = some o → b ≠ X.env.locals := fun b o e => Nat.ne_of_lt (Nat.lt_of_lt_of_le (Heap.lt_size e) I.ok.above)
  have neC : ∀ b o, X.s₀.heap.get? b = some o → b ∉ X.ex → b ∉ ch := fun b o e hx hb => by
    rcases (hch b hb).1 with z | z
    · exact hx z
    · exact absurd (Nat.lt_of_lt_of_le (Heap.lt_size e) z) (Nat.lt_irrefl _)
  have cellK : ∀ x c, X.env.cells.lookup x = some c → ∀ v, s.heap.IsCell c v → h'.IsCell c v := fun x c e v ⟨o, ho, hd⟩ => by
    have nch : c ∉ ch := fun z => (hch c z).2.2.1 x c e rfl
    by_cases hc : c ∈ X.fs
    · obtain ⟨sl, q⟩ := slot c o (I.cne x c e) hc nch ho (I.freeC x c e)
      exact ⟨_, q, hd⟩
    · exact ⟨o, keep c o (I.cne x c e) hc nch ho (I.freeC x c e), hd⟩
  refine ⟨I.ok, I.os, hg, ⟨fun b o e n hb hx => ?_, fun b o e n hb hx => ?_, fun b o e n hx => ?_, fun b o e hx => ?_, fun b xs e => tups b xs (I.base.tups b xs e), fun b o xs e => frzs b o xs (I.base.frzs b o xs e), fun b ps e => ?_⟩, ?_, fun x c e => ?_, ?_, fun x c e => ?_, fun p hp => ?_, hok, I.len⟩
  · exact keep b o (neL b o e) hb (neC b o e hx) (I.base.keep b o e n hb hx) (I.base.free b o e n hx)
  · obtain ⟨sl, e1⟩ := I.base.slot b o e n hb hx
    obtain ⟨sl', e2⟩ := slot b _ (neL b o e) hb (neC b o e hx) e1 (I.base.free b o e n hx)
    exact ⟨sl', e2⟩
  · obtain ⟨o', e1⟩ := I.base.there b o e hx
    exact free b o' (neC b o e hx) e1 (I.base.free b o e n hx)
  · obtain ⟨o', e1⟩ := I.base.there b o e hx
    exact there b o' (neC b o e hx) e1
  · obtain ⟨m1, e1⟩ := I.base.tbls b ps e
    obtain ⟨m2, e2⟩ := tbls b _ e1
    exact ⟨m1 ++ m2, by rw [e2, Array.append_assoc]⟩
  · obtain ⟨m, hn, hl⟩ := I.loc
    refine ⟨m, ns m hn, fun i x v e1 e2 e3 => ?_⟩
    obtain ⟨u, r, l⟩ := hl i x v e1 e2 e3
    refine ⟨u, r, ?_⟩
    rcases l with l | ⟨k, c, e, z⟩
    · exact .inl l
    · exact .inr ⟨k, c, e, cellK x c e _ z⟩
  · obtain ⟨v, z⟩ := I.cell x c e
    exact ⟨v, cellK x c e v z⟩
  · obtain ⟨m, ⟨o, _, _, ho, _⟩, _⟩ := I.loc
    exact free _ o (fun z => (hch _ z).2.1 rfl) ho I.free
  · obtain ⟨v, o, ho, hd⟩ := I.cell x c e
    exact free c o (fun z => (hch c z).2.2.1 x c e rfl) ho (I.freeC x c e)
  · obtain ⟨e, n, ne, nf, d⟩ := I.pin p hp
    have nch : p.1 ∉ ch := fun z => (hch p.1 z).2.2.2 p hp rfl
    exact ⟨keep p.1 p.2 ne nf nch e n, free p.1 p.2 nch e n, ne, nf, d⟩
/-- .. where the frame's own object is kept too -/
theorem Inv.un {t' : Nat} (I : Inv X pins σ H s) (u : Un X.fs [] H H' s.heap h') (hok : HOk X.prog X.w H' h') : Inv X pins σ H' { s with heap := h', toks := t' } := by
  obtain ⟨m, ⟨o, es, ep, ho, r⟩, _⟩ := id I.loc
  obtain ⟨sl, hL⟩ := u.any ho I.free (by simp)
  exact I.step (g' := s.gens) (d' := s.drawn) (ch := []) (fun _ z => nomatch z) (fun b o _ hb _ e n => u.keep b o e n hb (by simp)) (fun b o _ hb _ e n => u.slot b o e n hb (by simp)) (fun b o _ e n => u.free b o e n (by simp)) (fun b o _ e => u.there b o e (by simp)) u.tups u.frzs u.tbls (fun m' hm => by
    obtain ⟨o', es', ep', ho', r'⟩ := hm
    rw [ho] at ho'; cases ho'
    exact ⟨_, es', ep', hL, r'⟩) hok I.bare
/-- behind a call (or a comprehension's block): the slots of this frame may have changed too, the records at ch may have turned -/
theorem Inv.call {g' : Array GenState} {t' : Nat} {d' : Drawn} {ch : List Addr} (I : Inv X pins σ H s) (u : Un (frs X.stack) ch H H' s.heap h') (hok : HOk X.prog X.w H' h') (hg : AllBare g')
    (hch : ∀ b ∈ ch, (b ∈ X.ex ∨ X.s₀.heap.objs.size ≤ b) ∧ b ≠ X.env.locals ∧ (∀ x c, X.env.cells.lookup x = some c → c ≠ b) ∧ ∀ p ∈ X.pn ++ pins, p.1 ≠ b) :
    Inv X pins σ H' { s with heap := h', gens := g', drawn := d', toks := t' } := by
  obtain ⟨m, ⟨o, es, ep, ho, r⟩, _⟩ := id I.loc
  obtain ⟨sl, hL⟩ := u.any ho I.free fun z => (hch _ z).2.1 rfl
  exact I.step (ch := ch) hch (fun b o hL hb hc e n => u.keep b o e n (fun z => (List.mem_cons.mp (I.stkSub b z)).elim hL hb) hc) (fun b o _ _ hc e n => u.any e n hc) (fun b o hc e n => u.free b o e n hc) (fun b o hc e => u.there b o e hc) u.tups u.frzs u.tbls (fun m' hm => by
    obtain ⟨o', es', ep', ho', r'⟩ := hm
    rw [ho] at ho'; cases ho'
    exact ⟨_, es', ep', hL, r'⟩) hok hg
/-- an untracked record of ours (an iterator) has turned -/
theorem Inv.turned {t' : Nat} {it : Addr} (I : Inv X pins σ H s) (k : ∀ b o, b ≠ it → s.heap.get? b = some o → h'.get? b = some o) (hn : H it = none) (hL : it ≠ X.env.locals)
    (h1 : it ∈ X.ex ∨ X.s₀.heap.objs.size ≤ it) (h2 : ∀ x c, X.env.cells.lookup x = some c → c ≠ it) (h3 : ∀ p ∈ X.pn ++ pins, p.1 ≠ it) : Inv X pins σ H { s with heap := h', toks := t' } := by
  have nit : ∀ b u, H b = some u → b ≠ it := fun b u e z => by rw [z, hn] at e; cases e
  refine I.step (g' := s.gens) (d' := s.drawn) (ch := [it]) (fun b hb => ?_) (fun b o _ _ hc e _ => k b o (fun z => hc (by simp [z])) e) (fun b o _ _ hc e _ => ⟨o.slots, k b o (fun z => hc (by simp [z])) e⟩) (fun _ _ _ _ n => n)
    (fun b o hc e => ⟨o, k b o (fun z => hc (by simp [z])) e⟩) (fun _ _ e => e) (fun _ _ _ e => e) (fun b ps e => ⟨#[], by rw [e]; simp⟩) (fun m hm => ?_) (fun b u e => ?_) I.bare
  · have e : b = it := by simpa using hb
    subst e
    exact ⟨h1, hL, h2, h3⟩
  · obtain ⟨o, es, ep, ho, r⟩ := hm
    exact ⟨o, es, ep, k _ o (Ne.symm hL) ho, r⟩
  · refine (I.hok b u e).stay (fun c v hc q => k c v ?_ q) (fun _ q => q) fun _ _ q => q
    rcases hc with z | z
    · rw [z]; exact nit b u e
    · exact nit c _ z
theorem Inv.tok (I : Inv X pins σ H s) (t : Nat) : Inv X pins σ H { s with toks := t } := I.un (h' := s.heap) (t' := t) Un.refl I.hok
/-- all objects kept -/
theorem Inv.kept {t' : Nat} (I : Inv X pins σ H s) (k : ∀ b u, s.heap.get? b = some u → h'.get? b = some u) : Inv X pins σ H { s with heap := h', toks := t' } := I.un (Un.kept k) (I.hok.kept k)
/-- a new object laid and tracked -/
theorem Inv.laid {a : Addr} {o : HO} {t' : Nat} (I : Inv X pins σ H s) (k : ∀ b u, s.heap.get? b = some u → h'.get? b = some u) (hp : s.heap.objs.size ≤ a) (new : ObjOk X.prog X.w (upd H a o) h' a o) :
    Inv X pins σ (upd H a o) { s with heap := h', toks := t' } := I.un (Un.laid k hp (I.hok.fresh hp)) (I.hok.laid k hp new)
/-- an object written -/
theorem Inv.write {x e : Addr} {o : HO} {t' : Nat} (I : Inv X pins σ H s) (mu : Mut (H x)) (he : e = x ∨ H e = some (.own x)) (k : ∀ b u, b ≠ e → s.heap.get? b = some u → h'.get? b = some u) (heo : ∃ u, h'.get? e = some u)
    (new : ObjOk X.prog X.w (upd H x o) h' x o) : Inv X pins σ (upd H x o) { s with heap := h', toks := t' } := I.un (Un.write mu he k heo) (I.hok.write mu he k heo new)
/-- forgetting slots, pins -/
theorem Inv.weak {σ' : List (Option V)} (I : Inv X pins σ H s) (hl : σ'.length = σ.length) (w : ∀ (i : Nat) v, σ'[i]? = some (some v) → σ[i]? = some (some v)) : Inv X pins σ' H s :=
  ⟨I.ok, I.os, I.bare, I.base, let ⟨m, hn, hl'⟩ := I.loc; ⟨m, hn, fun i x v e1 e2 e3 => hl' i x v e1 (w i v e2) e3⟩, I.cell, I.free, I.freeC, I.pin, I.hok, hl.trans I.len⟩
theorem Inv.pins_of {pins' : List (Addr × Obj)} (I : Inv X pins σ H s) (h : ∀ p ∈ pins', s.heap.get? p.1 = some p.2 ∧ H p.1 = none ∧ p.1 ≠ X.env.locals ∧ p.1 ∉ X.fs ∧ ∀ v, p.2.data ≠ .cell v) : Inv X pins' σ H s :=
  ⟨I.ok, I.os, I.bare, I.base, I.loc, I.cell, I.free, I.freeC, fun p hp => (List.mem_append.mp hp).elim (fun z => I.pin p (List.mem_append_left _ z)) (h p), I.hok, I.len⟩

theorem nodup_ix {N : List Str} (hN : N.Nodup) {i j : Nat} {x : Str} (a : N[i]? = some x) (b : N[j]? = some x) : i = j := by
  obtain ⟨h1, e1⟩ := List.getElem?_eq_some_iff.mp a
  obtain ⟨h2, e2⟩ := List.getElem?_eq_some_iff.mp b
  exact (List.getElem_inj hN).mp (e1.trans e2.symm)

/-- a name is stored; what changed -/
theorem store_ok2 {M : Model} {A : Around} {E : Value → Shared → Prop} {i : Nat} {x : Str} {v : V} {u : Value} {Q : Unit → Shared → Prop} (I : Inv X pins σ H s) (hN : X.N.Nodup) (hi : X.N[i]? = some x) (hx : Loc X.env.scope x) (r : RelV v u)
    (h : ∀ s', Inv X pins (σ.set i (some v)) H s' → (∃ a, Heap.SameBut a s.heap s'.heap ∧ (a = X.env.locals ∨ X.env.cells.lookup x = some a)) → Q () s') (hf : X.fn x = true ∨ X.env.scope.names.lookup x = some .local := by first | exact .inl rfl | exact .inr rfl | assumption) : wpAny M A (storeName X.env x u) Q E s := by
  obtain ⟨m, hn, hl⟩ := id I.loc
  have hcls : (X.env.scope.kind == .class || (X.env.scope.kind == .module && X.env.locals != X.env.globals)) = false := by rw [I.ok.kind]; rfl
  have hiσ : i < σ.length := by rw [I.len]; exact (List.getElem?_eq_some_iff.mp hi).1
  have cne := I.cne
  have tracked : ∀ {a : Addr} {h' : Heap}, (∃ o, s.heap.get? a = some o ∧ H a = none) → Heap.SameBut a s.heap h' → HOk X.prog X.w H h' := fun {a h'} ha hs b ob e => by
    obtain ⟨_, _, hfree⟩ := ha
    refine (I.hok b ob e).stay (fun c w' hc q => (hs.2 c ?_).trans q) (fun _ q => q) fun _ _ q => q
    rintro rfl
    rcases hc with rfl | hc
    · rw [hfree] at e; cases e
    · rw [hfree] at hc; cases hc
  rcases hx with hk | hk
  · refine wpAny_storeName_local hk hn (fun h' hn' hs => ?_) hcls
    obtain ⟨oL, _, _, hoL, _⟩ := id hn
    refine h _ ⟨I.ok, I.os, I.bare, ⟨fun b o e n hb hx => ?_, fun b o e n hb hx => ?_, I.base.free, fun b o e hx => ?_, I.base.tups, I.base.frzs, I.base.tbls⟩, ⟨_, hn', fun j y v' e1 e2 e3 => ?_⟩, fun y c e => ?_, I.free, I.freeC, fun p hp => ?_, tracked ⟨oL, hoL, I.free⟩ hs, by simpa using I.len⟩ ⟨_, hs, .inl rfl⟩
    · exact (hs.2 b (Nat.ne_of_lt (Nat.lt_of_lt_of_le (Heap.lt_size e) I.ok.above))).trans (I.base.keep b o e n hb hx)
    · obtain ⟨sl, e1⟩ := I.base.slot b o e n hb hx
      exact ⟨sl, (hs.2 b (Nat.ne_of_lt (Nat.lt_of_lt_of_le (Heap.lt_size e) I.ok.above))).trans e1⟩
    · obtain ⟨o', e1⟩ := I.base.there b o e hx
      exact ⟨o', (hs.2 b (Nat.ne_of_lt (Nat.lt_of_lt_of_le (Heap.lt_size e) I.ok.above))).trans e1⟩
    · by_cases hj : j = i
      · subst hj
        rw [hi] at e1; cases e1
        rw [List.getElem?_set_self hiσ] at e2
        cases e2
        exact ⟨u, r, .inl ⟨hk, by simp⟩⟩
      · rw [List.getElem?_set_ne (Ne.symm hj)] at e2
        obtain ⟨u', r', q⟩ := hl j y v' e1 e2 e3
        refine ⟨u', r', ?_⟩
        rcases q with ⟨k, e⟩ | ⟨k, c, e, z⟩
        · refine .inl ⟨k, ?_⟩
          have : y ≠ x := fun e => hj (nodup_ix hN e1 (e ▸ hi))
          simp [this, e]
        · exact .inr ⟨k, c, e, z.sameBut hs (cne y c e)⟩
    · obtain ⟨w', z⟩ := I.cell y c e
      exact ⟨w', z.sameBut hs (cne y c e)⟩
    · obtain ⟨e, n, ne, nf, d⟩ := I.pin p hp
      exact ⟨(hs.2 p.1 ne).trans e, n, ne, nf, d⟩
  · have hfn : X.fn x = true := by
      rcases hf with z | z
      · exact z
      · rw [z] at hk; cases hk
    obtain ⟨c, hc⟩ := I.ok.has x (.inl hk)
    obtain ⟨w', z⟩ := I.cell x c hc
    refine wpAny_storeName_cell I.ok.kind hk hc z (fun h' hc' hs => ?_)
    obtain ⟨oc, hoc, hocd⟩ := id z
    refine h { s with heap := h' } ⟨I.ok, I.os, I.bare, ⟨fun b o e n hb hx => ?_, fun b o e n hb hx => ?_, I.base.free, fun b o e hx => ?_, I.base.tups, I.base.frzs, I.base.tbls⟩, ⟨m, hn.sameBut hs (Ne.symm (cne x c hc)), fun j y v' e1 e2 e3 => ?_⟩, fun y c' e => ?_, I.free, I.freeC, fun p hp => ?_, tracked ⟨oc, hoc, I.freeC x c hc⟩ hs, by simpa using I.len⟩ ⟨c, hs, .inr hc⟩
    · exact (hs.2 b (Nat.ne_of_lt (Nat.lt_of_lt_of_le (Heap.lt_size e) (I.ok.cab x c hfn hc)))).trans (I.base.keep b o e n hb hx)
    · obtain ⟨sl, e1⟩ := I.base.slot b o e n hb hx
      exact ⟨sl, (hs.2 b (Nat.ne_of_lt (Nat.lt_of_lt_of_le (Heap.lt_size e) (I.ok.cab x c hfn hc)))).trans e1⟩
    · obtain ⟨o', e1⟩ := I.base.there b o e hx
      exact ⟨o', (hs.2 b (Nat.ne_of_lt (Nat.lt_of_lt_of_le (Heap.lt_size e) (I.ok.cab x c hfn hc)))).trans e1⟩
    · by_cases hj : j = i
      · subst hj
        rw [hi] at e1; cases e1
        rw [List.getElem?_set_self hiσ] at e2
        cases e2
        exact ⟨u, r, .inr ⟨.inl hk, c, hc, hc'⟩⟩
      · rw [List.getElem?_set_ne (Ne.symm hj)] at e2
        obtain ⟨u', r', q⟩ := hl j y v' e1 e2 e3
        refine ⟨u', r', ?_⟩
        rcases q with q | ⟨k, c', e, z'⟩
        · exact .inl q
        · refine .inr ⟨k, c', e, z'.sameBut hs ?_⟩
          rintro rfl
          exact hj (nodup_ix hN e1 (I.ok.inj _ _ _ e hc ▸ hi))
    · by_cases hcc : c' = c
      · subst hcc; exact ⟨_, hc'⟩
      · obtain ⟨w2, z2⟩ := I.cell y c' e
        exact ⟨w2, z2.sameBut hs hcc⟩
    · obtain ⟨e, n, ne, nf, d⟩ := I.pin p hp
      refine ⟨(hs.2 p.1 ?_).trans e, n, ne, nf, d⟩
      intro q
      rw [q, hoc] at e
      have q' : oc = p.2 := Option.some.inj e
      exact d w' (by rw [← q']; exact hocd)
theorem store_ok {M : Model} {A : Around} {E : Value → Shared → Prop} {i : Nat} {x : Str} {v : V} {u : Value} {Q : Unit → Shared → Prop} (I : Inv X pins σ H s) (hN : X.N.Nodup) (hi : X.N[i]? = some x) (hx : Loc X.env.scope x) (r : RelV v u)
    (h : ∀ s', Inv X pins (σ.set i (some v)) H s' → Q () s') (hf : X.fn x = true ∨ X.env.scope.names.lookup x = some .local := by first | exact .inl rfl | exact .inr rfl | assumption) : wpAny M A (storeName X.env x u) Q E s :=
  store_ok2 I hN hi hx r (fun s' I' _ => h s' I') hf
/-- behind a call or a block, the state as it is -/
theorem Inv.call' {s' : Shared} {ch : List Addr} (I : Inv X pins σ H s) (ho : s'.os = s.os) (u : Un (frs X.stack) ch H H' s.heap s'.heap) (hok : HOk X.prog X.w H' s'.heap) (hg : AllBare s'.gens)
    (hch : ∀ b ∈ ch, (b ∈ X.ex ∨ X.s₀.heap.objs.size ≤ b) ∧ b ≠ X.env.locals ∧ (∀ x c, X.env.cells.lookup x = some c → c ≠ b) ∧ ∀ p ∈ X.pn ++ pins, p.1 ≠ b) : Inv X pins σ H' s' := by
  obtain ⟨h', g', d', t', o'⟩ := s'
  have e : o' = s.os := ho
  subst e
  exact I.call (g' := g') (t' := t') (d' := d') u hok hg hch
end

/-! ### the judgements -/
/-- an exception: its class, its own dict's address (where it has one), the abstract heap behind it -/
abbrev XK := Value → Option Addr → Hp → Prop
abbrev St := List (Option V)
abbrev VK := V → Hp → Prop
/-- an expression's reading; a test's; an argument list's -/
abbrev TE := St → Hp → VK → Prop
abbrev TT := St → Hp → (Bool → Hp → Prop) → Prop
abbrev TA := St → Hp → (List V → Hp → Prop) → Prop
/-- what is wanted behind a statement -/
structure Ends where
  nx : St → Hp → Prop
  rt : VK
  bk : St → Hp → Prop := fun _ _ => False
  ct : St → Hp → Prop := fun _ _ => False
abbrev TS := Ends → St → Hp → Prop

def EP (X : Cx) (pins : List (Addr × Obj)) (σ : St) (Q : VK) (u : Value) (s' : Shared) : Prop := ∃ v H', Inv X pins σ H' s' ∧ RelV v u ∧ Q v H'
def TP (X : Cx) (pins : List (Addr × Obj)) (σ : St) (Q : Bool → Hp → Prop) (b : Bool) (s' : Shared) : Prop := ∃ H', Inv X pins σ H' s' ∧ Q b H'
def AP (X : Cx) (pins : List (Addr × Obj)) (σ : St) (Q : List V → Hp → Prop) (us : List Value) (s' : Shared) : Prop := ∃ vs H', Inv X pins σ H' s' ∧ Vals vs us ∧ Q vs H'
def SP (X : Cx) (pins : List (Addr × Obj)) (D : Ends) (f : Flow) (s' : Shared) : Prop :=
  match f with
  | .next => ∃ σ' H', Inv X pins σ' H' s' ∧ D.nx σ' H'
  | .brk => ∃ σ' H', Inv X pins σ' H' s' ∧ D.bk σ' H'
  | .cont => ∃ σ' H', Inv X pins σ' H' s' ∧ D.ct σ' H'
  | .ret u => ∃ v σ' H', Inv X pins σ' H' s' ∧ RelV v u ∧ D.rt v H'

def PE (X : Cx) (e : Expr) (t : TE) : Prop :=
  ∀ (pins : List (Addr × Obj)) (s : Shared) (σ : St) (H : Hp) (Q : VK), Inv X pins σ H s → t σ H Q → wpAny (model X.prog X.w) X.A (eval e X.env) (EP X pins σ Q) X.xe s
def PT (X : Cx) (e : Expr) (t : TT) : Prop :=
  ∀ (pins : List (Addr × Obj)) (s : Shared) (σ : St) (H : Hp) (Q : Bool → Hp → Prop), Inv X pins σ H s → t σ H Q → wpAny (model X.prog X.w) X.A (isTrue e X.env (eval e X.env)) (TP X pins σ Q) X.xe s
/-- a test whatever its 'whole' is (and, or) -/
def PW (X : Cx) (e : Expr) (t : TT) : Prop :=
  ∀ (whole : Sem Value) (pins : List (Addr × Obj)) (s : Shared) (σ : St) (H : Hp) (Q : Bool → Hp → Prop), Inv X pins σ H s → t σ H Q → wpAny (model X.prog X.w) X.A (isTrue e X.env whole) (TP X pins σ Q) X.xe s
theorem PW.pt {X : Cx} {e : Expr} {t : TT} (h : PW X e t) : PT X e t := h _
/-- an argument list (no star), from the left -/
def PA (X : Cx) (es : List Expr) (t : TA) : Prop :=
  ∀ (pos : Pos) (pins : List (Addr × Obj)) (s : Shared) (σ : St) (H : Hp) (Q : List V → Hp → Prop), Inv X pins σ H s → t σ H Q → wpAny (model X.prog X.w) X.A (spliced (backTo pos (starEach es X.env))) (AP X pins σ Q) X.xe s
def PS (X : Cx) (st : Stmt) (t : TS) : Prop :=
  ∀ (pins : List (Addr × Obj)) (s : Shared) (σ : St) (H : Hp) (D : Ends), Inv X pins σ H s → t D σ H → wpAny (model X.prog X.w) X.A (exec st X.env) (SP X pins D) X.xe s
def PSs (X : Cx) (st : List Stmt) (t : TS) : Prop :=
  ∀ (pins : List (Addr × Obj)) (s : Shared) (σ : St) (H : Hp) (D : Ends), Inv X pins σ H s → t D σ H → wpAny (model X.prog X.w) X.A (execs st X.env) (SP X pins D) X.xe s
/-- weaken the end -/
theorem thn {α : Type} {t : Sem α} {Q Q' : α → Shared → Prop} {M : Model} {A : Around} {E : Value → Shared → Prop} {s : Shared} (h : wpAny M A t Q E s) (hQ : ∀ a s, Q a s → Q' a s) : wpAny M A t Q' E s := wpAny_mono h hQ fun _ _ x => x
end L2

namespace L2
open PySem PySem.Spec PyProof.Rows
section
variable {X : Cx}

/-- two expressions in a row -/
theorem bin {a b : Expr} {ta tb : TE} (ha : PE X a ta) (hb : PE X b tb) {pins : List (Addr × Obj)} {s : Shared} {σ : St} {H : Hp} {R : V → V → Hp → Prop} (I : Inv X pins σ H s) (h : ta σ H fun x H1 => tb σ H1 fun y H2 => R x y H2)
    {α : Type} {Q : α → Shared → Prop} {f : Value → Value → Sem α}
    (hf : ∀ v u s2 x y H2, Inv X pins σ H2 s2 → RelV x v → RelV y u → R x y H2 → wpAny (model X.prog X.w) X.A (f v u) Q X.xe s2) :
    wpAny (model X.prog X.w) X.A (eval a X.env) (fun v s₁ => wpAny (model X.prog X.w) X.A (eval b X.env) (fun u s₂ => wpAny (model X.prog X.w) X.A (f v u) Q X.xe s₂) X.xe s₁) X.xe s := by
  refine thn (ha pins s σ H _ I h) fun v s1 ⟨x, H1, I1, r1, q1⟩ => ?_
  refine thn (hb pins s1 σ H1 _ I1 q1) fun u s2 ⟨y, H2, I2, r2, q2⟩ => ?_
  exact hf v u s2 x y H2 I2 r1 r2 q2

/-! ### names and constants -/
def tVar (i : Nat) : TE := fun σ H Q => ∃ v, σ[i]? = some (some v) ∧ Q v H
def tC (v : V) : TE := fun _ H Q => Q v H
theorem pe_var {i : Nat} {x : Str} {pos : Pos} (hN : X.N[i]? = some x) (hv : Vis X.env.scope x) (hd : (x == ("__debug__" : Str)) = false := by decide) (hcd : (x == ("__classdict__" : Str)) = false := by decide) : PE X (.Name x pos) (tVar i) := by
  intro pins s σ H Q I h
  obtain ⟨v, e, h⟩ := h
  obtain ⟨m, hn, hl⟩ := I.loc
  obtain ⟨u, r, l⟩ := hl i x v hN e hv
  have fin : EP X pins σ Q u s := ⟨v, H, I, r, h⟩
  rcases l with ⟨hk, hm⟩ | ⟨hk, c, hc, hcell⟩
  · exact wpAny_Name (wpAny_loadName_local I.ok.kind hk hn hm fin) hd
  · rcases hk with hk | hk
    · exact wpAny_Name (wpAny_loadName_cell I.ok.kind hk hc hcell fin) hd
    · exact wpAny_Name (wpAny_loadName_free I.ok.kind hk hc hcell fin hcd) hd
theorem pe_int {i j pos} : PE X (.Constant (.int i) j pos) (tC (.int i)) := fun _ _ _ H _ I h => wpAny_Constant_int ⟨.int i, H, I.tok _, ⟨_, rfl⟩, h⟩
theorem pe_bl {b j pos} : PE X (.Constant (.bool b) j pos) (tC (.bl b)) := fun _ _ _ H _ I h => Constant_bool ⟨.bl b, H, I, rfl, h⟩
theorem pe_non {j pos} : PE X (.Constant .none j pos) (tC .non) := fun _ _ _ H _ I h => Constant_none ⟨.non, H, I, rfl, h⟩
theorem pe_str {x j pos} : PE X (.Constant (.str x) j pos) (tC (.str x)) := fun _ _ _ H _ I h => Calls.Constant_str ⟨.str x, H, I.tok _, ⟨_, rfl⟩, h⟩

/-- a global name of the def -/
def Gl (X : Cx) (x : Str) : Prop := X.env.kindOf x = some .globalImplicit
theorem ld_glob {E : Value → Shared → Prop} {pins : List (Addr × Obj)} {s : Shared} {σ : St} {H : Hp} {x : Str} {u : Value} {pos : Pos} {Q : Value → Shared → Prop} (I : Inv X pins σ H s) (hg : Gl X x) (hm : X.mg x = some u) (h : Q u s)
    (hd : (x == ("__debug__" : Str)) = false := by decide) : wpAny (model X.prog X.w) X.A (eval (.Name x pos) X.env) Q E s :=
  Calls.Name_function_global I.ok.kind hg (Calls.loadGlobal_global (by rw [I.ok.glob]; exact I.mod.glob.keeps I.bk) hm h) hd
theorem ld_blt {E : Value → Shared → Prop} {pins : List (Addr × Obj)} {s : Shared} {σ : St} {H : Hp} {x : Str} {u : Value} {pos : Pos} {Q : Value → Shared → Prop} (I : Inv X pins σ H s) (hg : Gl X x) (hm : X.mg x = none) (hv : bootBuiltins x = some u) (h : Q u s)
    (hn : x ≠ "__name__" := by decide) (hd : (x == ("__debug__" : Str)) = false := by decide) : wpAny (model X.prog X.w) X.A (eval (.Name x pos) X.env) Q E s := by
  obtain ⟨mb, h1, h2⟩ := I.mod.blt
  exact Calls.Name_function_global I.ok.kind hg (Calls.loadGlobal_builtin (by rw [I.ok.glob]; exact I.mod.glob.keeps I.bk) hm (by rw [I.ok.blt]; exact h1.keeps I.bk) ((h2 x hn).trans hv) h) hd
theorem pe_bltn {x : Str} {v : V} {u : Value} {pos : Pos} (hg : Gl X x) (hm : X.mg x = none) (hv : bootBuiltins x = some u) (r : RelV v u) (hn : x ≠ "__name__" := by decide) (hd : (x == ("__debug__" : Str)) = false := by decide) : PE X (.Name x pos) (tC v) :=
  fun _ _ _ H _ I h => ld_blt I hg hm hv ⟨v, H, I, r, h⟩ hn hd

/-! ### arithmetic -/
/-- two ints -/
def t2I (ta tb : TE) (k : Int → Int → Hp → Prop) : St → Hp → Prop := fun σ H => ta σ H fun x H1 => tb σ H1 fun y H2 => ∃ i j, x = .int i ∧ y = .int j ∧ k i j H2
def tAdd (ta tb : TE) : TE := fun σ H Q => t2I ta tb (fun i j H2 => Q (.int (i + j)) H2) σ H
def tSub (ta tb : TE) : TE := fun σ H Q => t2I ta tb (fun i j H2 => Q (.int (i - j)) H2) σ H
/-- the left factor below 2^64 -/
def tMul (ta tb : TE) : TE := fun σ H Q => t2I ta tb (fun i j H2 => (-(2 ^ 64) < i ∧ i < 2 ^ 64) ∧ Q (.int (i * j)) H2) σ H
variable {a b : Expr} {ta tb : TE} {pos : Pos}

/-! ### comparisons -/
def PC (X : Cx) (op : CmpOp) (a b : Expr) (t : TE) : Prop :=
  ∀ (pins : List (Addr × Obj)) (s : Shared) (σ : St) (H : Hp) (Q : VK), Inv X pins σ H s → t σ H Q →
    wpAny (model X.prog X.w) X.A (eval a X.env) (fun v s₁ => wpAny (model X.prog X.w) X.A (eval b X.env) (fun u s₂ => wpAny (model X.prog X.w) X.A (compareOp op v u) (EP X pins σ Q) X.xe s₂) X.xe s₁) X.xe s
theorem nobehind (b : Expr) {op : CmpOp} (h : op ≠ .In) (h2 : op ≠ .NotIn) : behindInMarks op b = false := by
  have e1 : (op == CmpOp.In) = false := by cases op <;> first | rfl | exact absurd rfl h
  have e2 : (op == CmpOp.NotIn) = false := by cases op <;> first | rfl | exact absurd rfl h2
  cases b <;> simp [behindInMarks, e1, e2]
def tCmp (p : Int → Int → Bool) (ta tb : TE) : TE := fun σ H Q => t2I ta tb (fun i j H2 => Q (.bl (p i j)) H2) σ H
abbrev tLt : TE → TE → TE := tCmp fun i j => decide (i < j)
abbrev tLe : TE → TE → TE := tCmp fun i j => decide (i ≤ j)
abbrev tGt : TE → TE → TE := tCmp fun i j => decide (j < i)
abbrev tGe : TE → TE → TE := tCmp fun i j => decide (j ≤ i)
abbrev tEqI : TE → TE → TE := tCmp fun i j => decide (i = j)
abbrev tNeI : TE → TE → TE := tCmp fun i j => !decide (i = j)
/-- is None -/
def tIsN (ta : TE) : TE := fun σ H Q => ta σ H fun x H1 => Q (.bl (decide (x = .non))) H1
def tNotN (ta : TE) : TE := fun σ H Q => ta σ H fun x H1 => Q (.bl (!decide (x = .non))) H1
/-- a comparison as a value, as a test -/
def tB (t : TE) : TT := fun σ H Q => t σ H fun x H1 => ∃ c, x = .bl c ∧ Q c H1
theorem pt_cmp {op : CmpOp} {t : TE} (h : PC X op a b t) (h1 : behindInMarks op b = false := by first | exact nobehind _ (by decide) (by decide) | rfl) : PT X (.Compare a [op] [b] pos) (tB t) := by
  intro pins s σ H Q I hw
  refine wpAny_isTrue_Compare1 (thn (h pins s σ H _ I hw) fun v s1 h1 => thn h1 fun u s2 h2 => thn h2 fun c s3 ⟨x, H1, I1, r1, q1⟩ => ?_) h1
  obtain ⟨d, rfl, q⟩ := q1
  cases r1
  exact wpAny_truthy_bool ⟨H1, I1, q⟩
/-- an expression whose value is a bool, as a test -/
theorem pt_val {e : Expr} {t : TE} (h : PE X e t) (he : ∀ whole, isTrue e X.env whole = (do let v ← whole; standAt e.pos; holding [v] (truthy v)) := by intro _; rfl) : PT X e (tB t) := by
  intro pins s σ H Q I hw
  refine isTrue_plain (thn (h pins s σ H _ I hw) fun v s1 ⟨x, H1, I1, r1, q1⟩ => ?_) (he _)
  obtain ⟨d, rfl, q⟩ := q1
  cases r1
  exact wpAny_truthy_bool ⟨H1, I1, q⟩

/-! ### and, or, not -/
variable {tA tB' : TT} {rest : List Expr}
def tAnd (t u : TT) : TT := fun σ H Q => t σ H fun c H1 => if c = true then u σ H1 Q else Q false H1
def tOr (t u : TT) : TT := fun σ H Q => t σ H fun c H1 => if c = true then Q true H1 else u σ H1 Q
def tNot (t : TT) : TT := fun σ H Q => t σ H fun c H1 => Q (!c) H1
theorem pw_and1 (ha : PT X a tA) : PW X (.BoolOp .And [a] pos) tA := by
  intro wh pins s σ H Q I h
  refine isTrue_and (thn (ha pins s σ H Q I h) fun c s1 e => ?_)
  cases c with
  | true => exact isTrue_and_nil e
  | false => exact e
theorem pw_or1 (ha : PT X a tA) : PW X (.BoolOp .Or [a] pos) tA := by
  intro wh pins s σ H Q I h
  refine isTrue_or (thn (ha pins s σ H Q I h) fun c s1 e => ?_)
  cases c with
  | false => exact isTrue_or_nil e
  | true => exact e
theorem pw_and (ha : PT X a tA) (hb : PW X (.BoolOp .And (b :: rest) pos) tB') : PW X (.BoolOp .And (a :: b :: rest) pos) (tAnd tA tB') := by
  intro wh pins s σ H Q I h
  refine isTrue_and (thn (ha pins s σ H _ I h) fun c s1 ⟨H1, I1, q1⟩ => ?_)
  cases c with
  | true => exact hb wh pins s1 σ H1 Q I1 q1
  | false => exact ⟨H1, I1, q1⟩
theorem pw_or (ha : PT X a tA) (hb : PW X (.BoolOp .Or (b :: rest) pos) tB') : PW X (.BoolOp .Or (a :: b :: rest) pos) (tOr tA tB') := by
  intro wh pins s σ H Q I h
  refine isTrue_or (thn (ha pins s σ H _ I h) fun c s1 ⟨H1, I1, q1⟩ => ?_)
  cases c with
  | true => exact ⟨H1, I1, q1⟩
  | false => exact hb wh pins s1 σ H1 Q I1 q1
theorem pt_not (ha : PT X a tA) : PT X (.UnaryOp .Not a pos) (tNot tA) := by
  intro pins s σ H Q I h
  exact isTrue_not (ha pins s σ H (fun c H1 => Q (!c) H1) I h)
/-- .. as values (bools) -/
def tAndV (ta tb : TE) : TE := fun σ H Q => ta σ H fun x H1 => ∃ c, x = .bl c ∧ if c = true then tb σ H1 Q else Q (.bl false) H1
def tOrV (ta tb : TE) : TE := fun σ H Q => ta σ H fun x H1 => ∃ c, x = .bl c ∧ if c = true then Q (.bl true) H1 else tb σ H1 Q
def tNotV (ta : TE) : TE := fun σ H Q => ta σ H fun x H1 => ∃ c, x = .bl c ∧ Q (.bl (!c)) H1
theorem pe_one {op} {t : TE} (h : PE X a t) : PE X (.BoolOp op [a] pos) t := fun pins s σ H Q I hw => BoolOp_one (h pins s σ H Q I hw)
theorem pe_and (ha : PE X a ta) (hb : PE X (.BoolOp .And (b :: rest) pos) tb) : PE X (.BoolOp .And (a :: b :: rest) pos) (tAndV ta tb) := by
  intro pins s σ H Q I h
  refine BoolOp_and (thn (ha pins s σ H _ I h) fun v s1 ⟨x, H1, I1, r1, q1⟩ => ?_)
  obtain ⟨c, rfl, q1⟩ := q1
  cases r1
  refine wpAny_truthy_bool ?_
  cases c with
  | true => exact hb pins s1 σ H1 Q I1 q1
  | false => exact ⟨.bl false, H1, I1, rfl, q1⟩
/-- a if t else b -/
def tIf (t : TT) (ta tb : TE) : TE := fun σ H Q => t σ H fun c H1 => if c = true then ta σ H1 Q else tb σ H1 Q
end
end L2

namespace L2
open PySem PySem.Spec PyProof.Rows

/-! ### a list, a tuple that is read: tracked, frozen, or an object of the module -/
def SqL (K : PySem.W.Frag) (H : Hp) (a : Addr) (xs : List V) : Prop :=
  Rd H a (.lst xs) ∨
    ∃ (o : Obj) (its : Array Value) (n : Nat), K.lookup a = some o ∧ o.cls = .type "list" ∧ o.dict = none ∧ o.data = .seq its n ∧ its.size ≤ sizeLine ∧ Vals xs its.toList
def SqT (K : PySem.W.Frag) (H : Hp) (a : Addr) (xs : List V) : Prop :=
  Rd H a (.tup xs) ∨
    ∃ (o : Obj) (its : Array Value) (n : Nat), K.lookup a = some o ∧ o.cls = .type "tuple" ∧ o.data = .seq its n ∧ its.size ≤ sizeLine ∧ Vals xs its.toList
def absV : Value → Option V
  | .none => some .non
  | .bool b => some (.bl b)
  | .int i _ => some (.int i)
  | .str x _ => some (.str x)
  | .bytes b _ => some (.byt b)
  | .float b _ => some (.flt b)
  | .ref a => some (.ref a)
  | .type n => some (.ty n)
  | _ => none
theorem RelV.abs {x : V} {u : Value} (r : RelV x u) : absV u = some x := by
  cases x with
  | non => cases r; rfl
  | bl _ => cases r; rfl
  | int _ => obtain ⟨t, rfl⟩ := r; rfl
  | str _ => obtain ⟨t, rfl⟩ := r; rfl
  | byt _ => obtain ⟨t, rfl⟩ := r; rfl
  | flt _ => obtain ⟨t, rfl⟩ := r; rfl
  | ref _ => cases r; rfl
  | ty _ => cases r; rfl
theorem RelV.inj {x y : V} {u : Value} (r : RelV x u) (q : RelV y u) : x = y := Option.some.inj (r.abs.symm.trans q.abs)
theorem Vals.inj : ∀ {xs ys : List V} {us : List Value}, Vals xs us → Vals ys us → xs = ys
  | _, _, _, .nil, .nil => rfl
  | _, _, _, .cons r t, .cons r' t' => by rw [r.inj r', Vals.inj t t']
section
variable {X : Cx} {pins : List (Addr × Obj)} {σ : St} {H : Hp} {s : Shared} {a : Addr} {xs ys : List V}
theorem SqL.of {K : PySem.W.Frag} (h : H a = some (.lst xs)) : SqL K H a xs := .inl (.inl h)
theorem SqT.of {K : PySem.W.Frag} (h : H a = some (.tup xs)) : SqT K H a xs := .inl (.inl h)
theorem Inv.list (I : Inv X pins σ H s) (h : SqL X.K H a xs) : ∃ its : List Value, Vals xs its ∧ PlainL s.heap a its.toArray ∧ xs.length ≤ sizeLine := by
  rcases h with h | ⟨o, its, n, hk, hc, hd, hs, hz, r⟩
  · obtain ⟨z, its, n, r, e⟩ := h.ok I.hok
    exact ⟨its, r, ⟨_, n, e, rfl, rfl, rfl⟩, z⟩
  · refine ⟨its.toList, r, ⟨o, n, I.kIn a o hk, hc, hd, by simpa using hs⟩, ?_⟩
    have e := r.length
    simp only [Array.length_toList] at e
    omega
theorem Inv.tuple (I : Inv X pins σ H s) (h : SqT X.K H a xs) : ∃ its : List Value, Vals xs its ∧ IsTup s.heap a its.toArray ∧ xs.length ≤ sizeLine := by
  rcases h with h | ⟨o, its, n, hk, hc, hs, hz, r⟩
  · obtain ⟨z, its, r, p⟩ := h.ok I.hok
    exact ⟨its, r, p, z⟩
  · refine ⟨its.toList, r, ⟨o, I.kIn a o hk, hc, n, by simpa using hs⟩, ?_⟩
    have e := r.length
    simp only [Array.length_toList] at e
    omega
theorem Inv.list_inj (I : Inv X pins σ H s) (h : SqL X.K H a xs) (h' : SqL X.K H a ys) : xs = ys := by
  obtain ⟨its, r, ⟨o, n, e, _, _, d⟩, _⟩ := I.list h
  obtain ⟨its', r', ⟨o', n', e', _, _, d'⟩, _⟩ := I.list h'
  rw [e] at e'; cases e'
  rw [d] at d'
  injection d' with d1 _
  have : its = its' := by simpa using congrArg Array.toList d1
  subst this
  exact r.inj r'
end

/-! ### another wish about exceptions -/
abbrev Cx.wish (X : Cx) (E : Value → Shared → Prop) : Cx := { X with xe := E }
/-- no exception leaves -/
abbrev Cx.nox (X : Cx) : Cx := X.wish fun _ _ => False
theorem Cx.Ok.wish {X : Cx} (ok : X.Ok) (E : Value → Shared → Prop) : (X.wish E).Ok :=
  ⟨ok.mod, ok.kind, ok.glob, ok.blt, ok.above, ok.inj, ok.has, ok.cab, ok.hd, ok.frames, ok.stk, ok.exf, ok.bs, ok.bsz, ok.noex, ok.exfs, ok.funs, ok.frf⟩
theorem Cx.Ok.unwish {X : Cx} {E : Value → Shared → Prop} (ok : (X.wish E).Ok) : X.Ok :=
  ⟨ok.mod, ok.kind, ok.glob, ok.blt, ok.above, ok.inj, ok.has, ok.cab, ok.hd, ok.frames, ok.stk, ok.exf, ok.bs, ok.bsz, ok.noex, ok.exfs, ok.funs, ok.frf⟩
section
variable {X : Cx} {pins : List (Addr × Obj)} {σ : St} {H : Hp} {s : Shared} {E : Value → Shared → Prop}
theorem Inv.wish (I : Inv X pins σ H s) (E : Value → Shared → Prop) : Inv (X.wish E) pins σ H s := ⟨I.ok.wish E, I.os, I.bare, I.base, I.loc, I.cell, I.free, I.freeC, I.pin, I.hok, I.len⟩
theorem Inv.unwish (I : Inv (X.wish E) pins σ H s) : Inv X pins σ H s := ⟨I.ok.unwish, I.os, I.bare, I.base, I.loc, I.cell, I.free, I.freeC, I.pin, I.hok, I.len⟩
theorem SP.unwish {D : Ends} {f : Flow} {s' : Shared} (h : SP (X.wish E) pins D f s') : SP X pins D f s' := by
  cases f with
  | next => obtain ⟨σ', H', I, q⟩ := h; exact ⟨σ', H', I.unwish, q⟩
  | brk => obtain ⟨σ', H', I, q⟩ := h; exact ⟨σ', H', I.unwish, q⟩
  | cont => obtain ⟨σ', H', I, q⟩ := h; exact ⟨σ', H', I.unwish, q⟩
  | ret u => obtain ⟨v, σ', H', I, r, q⟩ := h; exact ⟨v, σ', H', I.unwish, r, q⟩
theorem PE.nox {e : Expr} {t : TE} (h : PE X.nox e t) : PE X e t := fun pins s σ H Q I hw =>
  wpAny_mono (h pins s σ H Q (I.wish _) hw) (fun _ _ ⟨v, H', I', r, q⟩ => ⟨v, H', I'.unwish, r, q⟩) fun _ _ z => False.elim z
theorem PT.nox {e : Expr} {t : TT} (h : PT X.nox e t) : PT X e t := fun pins s σ H Q I hw =>
  wpAny_mono (h pins s σ H Q (I.wish _) hw) (fun _ _ ⟨H', I', q⟩ => ⟨H', I'.unwish, q⟩) fun _ _ z => False.elim z
theorem PSs.nox {st : List Stmt} {t : TS} (h : PSs X.nox st t) : PSs X st t := fun pins s σ H D I hw =>
  wpAny_mono (h pins s σ H D (I.wish _) hw) (fun _ _ q => q.unwish) fun _ _ z => False.elim z
end

/-! ### blocks and small statements -/
section
variable {X : Cx} {st : Stmt} {rest : List Stmt} {t u : TS} {e : Expr} {te : TE} {pos : Pos}
def tNext : TS := fun D σ H => D.nx σ H
def tSeq (t u : TS) : TS := fun D σ H => t { D with nx := u D } σ H
theorem pss_nil : PSs X [] tNext := fun _ _ σ H _ I h => wpAny_execs_nil ⟨σ, H, I, h⟩
theorem pss_cons (h1 : PS X st t) (h2 : PSs X rest u) : PSs X (st :: rest) (tSeq t u) := by
  intro pins s σ H D I h
  refine wpAny_execs_cons (thn (h1 pins s σ H { D with nx := u D } I h) fun f s1 q => ?_)
  cases f with
  | next =>
    obtain ⟨σ', H', I', q⟩ := q
    exact h2 pins s1 σ' H' D I' q
  | ret v => exact q
  | brk => exact q
  | cont => exact q
theorem pss_one (h1 : PS X st t) : PSs X [st] t := by
  intro pins s σ H D I h
  refine wpAny_execs_cons (thn (h1 pins s σ H D I h) fun f s1 q => ?_)
  cases f with
  | next => exact wpAny_execs_nil q
  | ret v => exact q
  | brk => exact q
  | cont => exact q
def tBreak : TS := fun D σ H => D.bk σ H
def tCont : TS := fun D σ H => D.ct σ H
/-- in a def's body nothing is shown -/
theorem Inv.quiet {pins : List (Addr × Obj)} {σ : St} {H : Hp} {s : Shared} (I : Inv X pins σ H s) : interactive X.env = false := by simp [interactive, I.ok.kind]
/-- an expression whose value is dropped -/
def tDrop (te : TE) : TS := fun D σ H => te σ H fun _ H1 => D.nx σ H1
theorem ps_expr (he : PE X e te) (hs : swapsWith e none pos.line X.env = pure false := by rfl) : PS X (.Expr e pos) (tDrop te) := by
  intro pins s σ H D I h
  exact wpAny_Expr_any (thn (he pins s σ H _ I h) fun v s1 ⟨x, H1, I1, r1, q1⟩ => ⟨σ, H1, I1, q1⟩) I.quiet hs
def tRet (te : TE) : TS := fun D σ H => te σ H D.rt
theorem ps_ret (he : PE X e te) : PS X (.Return (some e) pos) (tRet te) := by
  intro pins s σ H D I h
  exact wpAny_Return_some (thn (he pins s σ H _ I h) fun v s1 ⟨x, H1, I1, r1, q1⟩ => ⟨x, σ, H1, I1, r1, q1⟩)
def tRetN : TS := fun D _ H => D.rt .non H
def tIfS (c : TT) (t u : TS) : TS := fun D σ H => c σ H fun b H1 => if b = true then t D σ H1 else u D σ H1
theorem ps_if {c : Expr} {a b : List Stmt} {tc : TT} (hc : PT X c tc) (ha : PSs X a t) (hb : PSs X b u) : PS X (.If c a b pos) (tIfS tc t u) := by
  intro pins s σ H D I h
  refine wpAny_If (thn (hc pins s σ H _ I h) fun d s1 ⟨H1, I1, q1⟩ => ?_)
  cases d with
  | true => exact ha pins s1 σ H1 D I1 q1
  | false => exact hb pins s1 σ H1 D I1 q1
/-- code that the proof never comes to -/
def tNever : TS := fun _ _ _ => False
end

/-! ### targets -/
abbrev TG := V → St → Hp → (St → Hp → Prop) → Prop
abbrev TGs := List V → St → Hp → (St → Hp → Prop) → Prop
def PG (X : Cx) (target : Expr) (t : TG) : Prop :=
  ∀ (pins : List (Addr × Obj)) (s : Shared) (σ : St) (H : Hp) (v : V) (u : Value) (Q : St → Hp → Prop), Inv X pins σ H s → RelV v u → t v σ H Q →
    wpAny (model X.prog X.w) X.A (assign target X.env u) (fun _ s' => ∃ σ' H', Inv X pins σ' H' s' ∧ Q σ' H') X.xe s
/-- several targets, one after another -/
def PGs (X : Cx) (ts : List Expr) (t : TGs) : Prop :=
  ∀ (pins : List (Addr × Obj)) (s : Shared) (σ : St) (H : Hp) (vs : List V) (us : List Value) (Q : St → Hp → Prop), Inv X pins σ H s → Vals vs us → t vs σ H Q →
    wpAny (model X.prog X.w) X.A (assignInOrder ((assignEach ts X.env).map (·.2)) us) (fun _ s' => ∃ σ' H', Inv X pins σ' H' s' ∧ Q σ' H') X.xe s
/-- o[i] = v, by values -/
abbrev TSet := V → V → V → Hp → (Hp → Prop) → Prop
def PSet (X : Cx) (t : TSet) : Prop :=
  ∀ (pins : List (Addr × Obj)) (s : Shared) (σ : St) (H : Hp) (o i v : V) (ov iv u : Value) (Q : Hp → Prop), Inv X pins σ H s → RelV o ov → RelV i iv → RelV v u → t o i v H Q →
    wpAny (model X.prog X.w) X.A (setItem ov iv u) (fun _ s' => ∃ H', Inv X pins σ H' s' ∧ Q H') X.xe s
/-- a op= b, by values -/
abbrev TIp := V → V → Hp → VK → Prop
def PIp (X : Cx) (op : Operator) (t : TIp) : Prop :=
  ∀ (pins : List (Addr × Obj)) (s : Shared) (σ : St) (H : Hp) (x y : V) (v u : Value) (Q : VK), Inv X pins σ H s → RelV x v → RelV y u → t x y H Q →
    wpAny (model X.prog X.w) X.A (inplaceOp op v u) (EP X pins σ Q) X.xe s
section
variable {X : Cx} {pos : Pos}
def gName (i : Nat) : TG := fun v σ H Q => Q (σ.set i (some v)) H
theorem pg_name {i : Nat} {x : Str} (hN : X.N.Nodup) (hi : X.N[i]? = some x) (hx : Loc X.env.scope x) (hf : X.fn x = true ∨ X.env.scope.names.lookup x = some .local := by first | exact .inl rfl | exact .inr rfl | assumption) : PG X (.Name x pos) (gName i) := by
  intro pins s σ H v u Q I r h
  exact wpAny_assign_Name (store_ok I hN hi hx r (fun s' I' => ⟨_, H, I', h⟩) hf)
def gNil : TGs := fun vs σ H Q => vs = [] ∧ Q σ H
def gCons (t : TG) (u : TGs) : TGs := fun vs σ H Q => ∃ v r, vs = v :: r ∧ t v σ H fun σ' H' => u r σ' H' Q
theorem pgs_nil : PGs X [] gNil := by
  intro pins s σ H vs us Q I r h
  obtain ⟨e, h⟩ := h
  subst e
  cases r
  exact assignInOrder_nil ⟨σ, H, I, h⟩
theorem pgs_cons {e : Expr} {es : List Expr} {t : TG} {u : TGs} (h1 : PG X e t) (h2 : PGs X es u)
    (hs : (assignEach (e :: es) X.env).map (·.2) = assign e X.env :: (assignEach es X.env).map (·.2) := by rfl) : PGs X (e :: es) (gCons t u) := by
  intro pins s σ H vs us Q I r h
  obtain ⟨v, vr, e1, h⟩ := h
  subst e1
  cases r with
  | cons r rr =>
    rw [hs]
    refine assignInOrder_cons (thn (h1 pins s σ H _ _ _ I r h) fun _ s1 ⟨σ1, H1, I1, q1⟩ => ?_)
    exact h2 pins s1 σ1 H1 _ _ Q I1 rr q1
/-- (a, b, ..) = a tuple of that length -/
def gTup (K : PySem.W.Frag) (n : Nat) (t : TGs) : TG := fun v σ H Q => ∃ a xs, v = .ref a ∧ SqT K H a xs ∧ xs.length = n ∧ t xs σ H Q
theorem pg_tup {es : List Expr} {k : Nat} {t : TGs} {n : Nat} (hc : X.calm = true) (h : PGs X es t)
    (hn : (assignEach es X.env).length = n := by rfl) (hst : (assignEach es X.env).findIdx? (·.1) = none := by rfl) : PG X (.Tuple es k pos) (gTup X.K n t) := by
  intro pins s σ H v u Q I r hw
  obtain ⟨a, xs, e1, hq, hl, hw⟩ := hw
  subst e1
  cases r
  obtain ⟨its, rv, ht, hz⟩ := I.tuple hq
  refine assign_Tuple_tuple (I.ok.hd hc) ht (by simp [hn, ← hl, rv.length]) hst fun h' hx => ?_
  have I1 : Inv X pins σ H { s with heap := h' } := I.kept (t' := s.toks) fun b o e => hx b o (Nat.ne_of_lt (Heap.lt_size e)) e
  exact h pins _ σ H xs _ Q I1 (by simpa using rv) hw
/-- o[i] = .. -/
def gSub (to ti : TE) (t : TSet) : TG := fun v σ H Q => to σ H fun o H1 => ti σ H1 fun i H2 => t o i v H2 fun H3 => Q σ H3
/-- target = value -/
def tAsg (te : TE) (g : TG) : TS := fun D σ H => te σ H fun x H1 => g x σ H1 D.nx
/-- name = value -/
theorem ps_set {i : Nat} {x : Str} {e : Expr} {te : TE} {pos' : Pos} (hN : X.N.Nodup) (hi : X.N[i]? = some x) (hx : Loc X.env.scope x) (he : PE X e te) (hs : swapsWith e (some (.Name x pos')) pos.line X.env = pure false := by rfl) (hf : X.fn x = true ∨ X.env.scope.names.lookup x = some .local := by first | exact .inl rfl | exact .inr rfl | assumption) :
    PS X (.Assign [.Name x pos'] e pos) (tAsg te (gName i)) := by
  intro pins s σ H D I h
  refine wpAny_Assign_Name (thn (he pins s σ H _ I h) fun v s1 ⟨y, H1, I1, r1, q1⟩ => ?_) hs
  exact store_ok I1 hN hi hx r1 (fun s2 I2 => ⟨_, H1, I2, q1⟩) hf
/-- a, b = x, y with plain local names: stored from the right; the pair itself is not tracked (the opening rows as in PyProof/Rows/TupAssign.lean:23) -/
def tPar (i j : Nat) (ta : TA) : TS := fun D σ H => ta σ H fun vs H1 => ∃ v w, vs = [v, w] ∧ D.nx ((σ.set i (some v)).set j (some w)) H1
/-- name op= e -/
def tAug (i : Nat) (te : TE) (ti : TIp) : TS := fun D σ H => ∃ x, σ[i]? = some (some x) ∧ te σ H fun y H1 => ti x y H1 fun z H2 => D.nx (σ.set i (some z)) H2
theorem ps_aug {i : Nat} {x : Str} {e : Expr} {te : TE} {op : Operator} {ti : TIp} {pos' : Pos} (hN : X.N.Nodup) (hi : X.N[i]? = some x) (hx : Loc X.env.scope x) (he : PE X e te) (ho : PIp X op ti) (hf : X.fn x = true ∨ X.env.scope.names.lookup x = some .local := by first | exact .inl rfl | exact .inr rfl | assumption) :
    PS X (.AugAssign (.Name x pos') op e pos) (tAug i te ti) := by
  intro pins s σ H D I h
  obtain ⟨v, e1, h⟩ := h
  obtain ⟨m, hn, hl⟩ := I.loc
  have vis : Vis X.env.scope x := by rcases hx with k | k; exact .inl k; exact .inr (.inl k)
  obtain ⟨u, r, l⟩ := hl i x v hi e1 vis
  refine wpAny_AugAssign_Name ?_
  have go : wpAny (model X.prog X.w) X.A (eval e X.env) (fun w s₂ => wpAny (model X.prog X.w) X.A (inplaceOp op u w) (fun r s₃ => wpAny (model X.prog X.w) X.A (storeName X.env x r) (fun _ => SP X pins D .next) X.xe s₃) X.xe s₂) X.xe s := by
    refine thn (he pins s σ H _ I h) fun w s1 ⟨y, H1, I1, r1, q1⟩ => ?_
    refine thn (ho pins s1 σ H1 v y u w _ I1 r r1 q1) fun z s2 ⟨zv, H2, I2, r2, q2⟩ => ?_
    exact store_ok I2 hN hi hx r2 (fun s3 I3 => ⟨_, H2, I3, q2⟩) hf
  rcases l with ⟨hk, hm⟩ | ⟨hk, c, hc, hcell⟩
  · exact wpAny_loadName_local I.ok.kind hk hn hm go
  · rcases hk with hk | hk
    · exact wpAny_loadName_cell I.ok.kind hk hc hcell go
    · rcases hx with k | k
      · have : X.env.scope.names.lookup x = some .free := hk
        rw [k] at this; cases this
      · have : X.env.scope.names.lookup x = some .free := hk
        rw [k] at this; cases this
/-- o[i] op= e -/
def tAugS (to ti te : TE) (tget : V → V → Hp → VK → Prop) (tip : TIp) (tset : TSet) : TS := fun D σ H => to σ H fun o H1 => ti σ H1 fun i H2 => tget o i H2 fun x H3 => te σ H3 fun y H4 => tip x y H4 fun z H5 => tset o i z H5 fun H6 => D.nx σ H6
/-- o[i], by values -/
def PGet (X : Cx) (t : V → V → Hp → VK → Prop) : Prop :=
  ∀ (pins : List (Addr × Obj)) (s : Shared) (σ : St) (H : Hp) (o i : V) (ov iv : Value) (Q : VK), Inv X pins σ H s → RelV o ov → RelV i iv → t o i H Q →
    wpAny (model X.prog X.w) X.A (getItem ov iv) (EP X pins σ Q) X.xe s
/-- ints -/
def ipI (f : Int → Int → Int) : TIp := fun x y H Q => ∃ i j, x = .int i ∧ y = .int j ∧ Q (.int (f i j)) H
theorem ip_add : PIp X .Add (ipI fun i j => i + j) := by
  intro pins s σ H x y v u Q I r1 r2 h
  obtain ⟨i, j, e1, e2, q⟩ := h
  subst e1; subst e2
  obtain ⟨t, rfl⟩ := r1
  obtain ⟨t', rfl⟩ := r2
  exact iadd_int ⟨.int _, H, I.tok _, ⟨_, rfl⟩, q⟩
end

/-! ### while -/
section
variable {X : Cx} {pos : Pos}
/-- the invariant W with its measure -/
def tWhile (c : TT) (tb : TS) : TS := fun D σ H => ∃ W : Nat → St → Hp → Prop, (∃ m, W m σ H) ∧ ∀ m σ H, W m σ H →
  c σ H fun b H1 => if b = true then ∃ N : St → Hp → Prop, (∀ σ' H', N σ' H' → ∃ m', m' < m ∧ W m' σ' H') ∧ tb { D with nx := N, ct := N, bk := D.nx } σ H1 else D.nx σ H1
theorem ps_while {c : Expr} {body : List Stmt} {tc : TT} {tb : TS} (hp : PassesOwn (model X.prog X.w) X.A X.env X.xe) (hc : PT X c tc) (hb : PSs X body tb) : PS X (.While c body [] pos) (tWhile tc tb) := by
  intro pins s σ H D I h
  obtain ⟨W, ⟨m0, w0⟩, turn⟩ := h
  refine wpAny_While (codeAny_whileLoop (fun n s' => ∃ σ' H', Inv X pins σ' H' s' ∧ W n σ' H') ?_ m0 ⟨σ, H, I, w0⟩)
  rintro n s1 ⟨σ1, H1, I1, w1⟩
  refine wpAny_passesOwn hp (thn (hc pins s1 σ1 H1 _ I1 (turn n σ1 H1 w1)) fun b s2 ⟨H2, I2, q2⟩ => ?_)
  cases b with
  | true =>
    obtain ⟨N, hN, q2⟩ := q2
    rw [if_pos rfl]
    refine wpAny_passesOwn hp (thn (hb pins s2 σ1 H2 _ I2 q2) fun f s3 q3 => ?_)
    cases f with
    | next =>
      obtain ⟨σ3, H3, I3, n3⟩ := q3
      obtain ⟨m', hm, w3⟩ := hN σ3 H3 n3
      exact ⟨m', hm, σ3, H3, I3, w3⟩
    | cont =>
      obtain ⟨σ3, H3, I3, n3⟩ := q3
      obtain ⟨m', hm, w3⟩ := hN σ3 H3 n3
      exact ⟨m', hm, σ3, H3, I3, w3⟩
    | brk => exact q3
    | ret v => exact q3
  | false =>
    rw [if_neg Bool.false_ne_true]
    exact wpAny_execs_nil ⟨σ1, H2, I2, q2⟩
end

/-! ### what a loop or a comprehension walks -/
/-- at turn i: it yields x (the heap may grow), or it stops -/
structure It where
  go : Nat → Hp → Prop
  yld : Nat → Hp → V → Hp → Prop
  stop : Nat → Hp → Prop
/-- the iterator's own objects may turn: they are not the frame's, not pinned, younger than the entry (or a comprehension's own) -/
def FpOk (X : Cx) (pins : List (Addr × Obj)) (H : Hp) (b : Addr) : Prop :=
  H b = none ∧ b ≠ X.env.locals ∧ b ∉ X.fs ∧ (b ∈ X.ex ∨ X.s₀.heap.objs.size ≤ b) ∧ (∀ x c, X.env.cells.lookup x = some c → c ≠ b) ∧ ∀ p ∈ X.pn ++ pins, p.1 ≠ b
theorem Inv.fpOk {X : Cx} {pins : List (Addr × Obj)} {σ : St} {H H' : Hp} {s : Shared} {b : Addr} (I : Inv X pins σ H s) (hb : s.heap.objs.size ≤ b) (hn : H' b = none) : FpOk X pins H' b := by
  refine ⟨hn, Nat.ne_of_gt (Nat.lt_of_lt_of_le I.lt hb), I.nofs hb, .inr (Nat.le_trans I.sz hb), fun x c e z => ?_, fun p hp z => ?_⟩
  · obtain ⟨v, q⟩ := I.cell x c e
    exact absurd (Nat.lt_of_lt_of_le q.lt (by rw [z]; exact hb)) (Nat.lt_irrefl _)
  · exact absurd (Nat.lt_of_lt_of_le (Heap.lt_size (I.pin p hp).1) (by rw [z]; exact hb)) (Nat.lt_irrefl _)
structure Turn (P : Program) (w : World) (K : PySem.W.Frag) (tg : Expr) (J : It) (fp : List Addr) (it : Addr) (tn : Nat → Heap → Prop) : Prop where
  mem : it ∈ fp
  obj : ∀ i h, tn i h → ∀ b ∈ fp, ∃ o, h.get? b = some o ∧ ∀ v, o.data ≠ .cell v
  keep : ∀ i h h', tn i h → (∀ b ∈ fp, ∀ o, h.get? b = some o → h'.get? b = some o) → tn i h'
  item : ∀ (X : Cx), X.prog = P → X.w = w → X.K = K → X.calm = true → ∀ (i : Nat) (pins : List (Addr × Obj)) (s : Shared) (σ : St) (H : Hp) (E : Value → Shared → Prop), Inv X pins σ H s → (∀ b ∈ fp, FpOk X pins H b) → tn i s.heap → J.go i H →
    wpAny (model P w) X.A (pyNext (.ref it)) (fun r s1 => ∃ u, r = some u ∧
      wpAny (model P w) X.A (letOwnedTupleGo tg (.ref it) u) (fun _ s2 => ∃ x H', Inv X pins σ H' s2 ∧ RelV x u ∧ J.yld i H x H' ∧ tn (i + 1) s2.heap ∧ ∀ b ∈ fp, H' b = none) E s1) E s
  done : ∀ (X : Cx), X.prog = P → X.w = w → X.K = K → X.calm = true → ∀ (i : Nat) (pins : List (Addr × Obj)) (s : Shared) (σ : St) (H : Hp) (E : Value → Shared → Prop), Inv X pins σ H s → (∀ b ∈ fp, FpOk X pins H b) → tn i s.heap → J.stop i H →
    wpAny (model P w) X.A (pyNext (.ref it)) (fun r s1 => r = none ∧ Inv X pins σ H s1) E s
  self : ∀ (A : Around) (i : Nat) (s : Shared) (Q : Value → Shared → Prop) (E : Value → Shared → Prop), tn i s.heap → Q (.ref it) s → wpAny (model P w) A (pyIter (.ref it)) Q E s
abbrev TI := St → Hp → (It → Hp → Prop) → Prop
/-- an iterator has come -/
def PIE (X : Cx) (pins : List (Addr × Obj)) (σ : St) (tg : Expr) (R : It → Hp → Prop) (itv : Value) (s2 : Shared) : Prop :=
  ∃ (it : Addr) (fp : List Addr) (tn : Nat → Heap → Prop) (J : It) (H' : Hp), itv = .ref it ∧ Inv X pins σ H' s2 ∧ Turn X.prog X.w X.K tg J fp it tn ∧ tn 0 s2.heap ∧ (∀ b ∈ fp, FpOk X pins H' b) ∧ R J H'
def PI (X : Cx) (tg iter : Expr) (wi : TI) : Prop :=
  ∀ (pins : List (Addr × Obj)) (s : Shared) (σ : St) (H : Hp) (R : It → Hp → Prop), Inv X pins σ H s → wi σ H R →
    wpAny (model X.prog X.w) X.A (eval iter X.env) (fun v s1 => wpAny (model X.prog X.w) X.A (pyIter v) (PIE X pins σ tg R) X.xe s1) X.xe s

/-- the step ahead of the store is nothing for an iterator that keeps no tuple -/
theorem go_of {M : Model} {A : Around} {E : Value → Shared → Prop} {s : Shared} {tg : Expr} {it : Addr} {u : Value} {o : Obj} {n : String} {vs : Array Value} {Q : Unit → Shared → Prop} (ho : s.heap.get? it = some o) (hc : o.cls = .type n) (hd : o.data = .fields vs)
    (hn : ["enumerate", "zip", "dict_itemiterator", "dict_reverseitemiterator", "odict_iterator", "itertools.zip_longest", "itertools.pairwise"].contains n = false) (hQ : Q () s) : wpAny M A (letOwnedTupleGo tg (.ref it) u) Q E s := by
  unfold letOwnedTupleGo
  cases tg <;> first
    | exact wpAny_pure hQ
    | (cases u <;> first
        | exact wpAny_pure hQ
        | (refine wpAny_bind (wpAny_load ho ?_)
           rw [hc, hd]
           show wpAny M A (if (["enumerate", "zip", "dict_itemiterator", "dict_reverseitemiterator", "odict_iterator", "itertools.zip_longest", "itertools.pairwise"].contains n && vs[0]? == some (rawInt _)) = true then _ else _) Q E s
           rw [if_neg (by intro h; rw [hn, Bool.false_and] at h; cases h)]
           exact wpAny_pure hQ))

/-- the list at a, as it stands at each turn (a loop may append to it) -/
def Itl (K : PySem.W.Frag) (a : Addr) : It :=
  ⟨fun i H => ∃ xs x, SqL K H a xs ∧ xs[i]? = some x, fun i H x H' => H' = H ∧ ∀ xs, SqL K H a xs → xs[i]? = some x, fun i H => ∃ xs, SqL K H a xs ∧ xs.length ≤ i⟩
def Itt (K : PySem.W.Frag) (a : Addr) : It :=
  ⟨fun i H => ∃ xs x, SqT K H a xs ∧ xs[i]? = some x, fun i H x H' => H' = H ∧ ∀ xs, SqT K H a xs → xs[i]? = some x, fun i H => ∃ xs, SqT K H a xs ∧ xs.length ≤ i⟩
/-- lo, lo + 1, .. (n of them) -/
def Itr (lo : Int) (n : Nat) : It := ⟨fun i _ => i < n, fun i H x H' => H' = H ∧ x = .int (lo + i), fun i _ => n ≤ i⟩
theorem turn_list {P : Program} {w : World} {K : PySem.W.Frag} {tg : Expr} (a it : Addr) : Turn P w K tg (Itl K a) [it] it (fun i h => h.IsListIter it a i) where
  mem := by simp
  obj := fun i h st b hb => by
    have e : b = it := by simpa using hb
    subst e
    obtain ⟨o, e, c, d⟩ := st
    exact ⟨o, e, fun v z => by rw [d] at z; cases z⟩
  keep := fun i h h' st k => st.at fun o e => k it (by simp) o e
  item := by
    intro X hP hw hK hc i pins s σ H E I hf st hg
    subst hP hw hK
    obtain ⟨xs, x, hq, hx⟩ := hg
    obtain ⟨its, rv, p, hz⟩ := I.list hq
    obtain ⟨u, hu, ru⟩ := rv.get hx
    obtain ⟨f0, f1, f2, f3, f4, f5⟩ := hf it (by simp)
    refine wpAny_pyNext_list_item st p.isList (x := u) (by simpa using hu) fun h' st' sb => ?_
    have I1 : Inv X pins σ H { s with heap := h' } := I.turned (t' := s.toks) (fun b o hb e => (sb.2 b hb).trans e) f0 f1 f3 f4 f5
    obtain ⟨o, e, c, d⟩ := id st'
    exact ⟨u, rfl, go_of (s := { s with heap := h' }) e c d (by decide) ⟨x, H, I1, ru, ⟨rfl, fun ys hy => by rw [I.list_inj hy hq]; exact hx⟩, st', fun b hb => (hf b hb).1⟩⟩
  done := by
    intro X hP hw hK hc i pins s σ H E I hf st hg
    subst hP hw hK
    obtain ⟨xs, hq, hx⟩ := hg
    obtain ⟨its, rv, p, hz⟩ := I.list hq
    obtain ⟨f0, f1, f2, f3, f4, f5⟩ := hf it (by simp)
    have hl := rv.length
    exact wpAny_pyNext_list_end (I.ok.hd hc) st p.isList (by simp; omega) fun h' eb => ⟨rfl, I.turned (t' := s.toks) (fun b o hb e => eb b o hb e) f0 f1 f3 f4 f5⟩
  self := fun _ _ _ _ _ st h => wpAny_pyIter_listiter st h
theorem turn_range {P : Program} {w : World} {K : PySem.W.Frag} {tg : Expr} (it : Addr) (lo : Int) (n : Nat) : Turn P w K tg (Itr lo n) [it] it (fun i h => IsRangeIter h it (lo + (i : Nat) * 1) ((n : Int) - (i : Nat)) 1) where
  mem := by simp
  obj := fun i h st b hb => by
    have e : b = it := by simpa using hb
    subst e
    exact ⟨_, st, fun v z => by
      have z' : Data.fields _ = Data.cell v := z
      cases z'⟩
  keep := fun i h h' st k => k it (by simp) _ st
  item := by
    intro X hP hw hK hc i pins s σ H E I hf st hg
    subst hP hw hK
    obtain ⟨f0, f1, f2, f3, f4, f5⟩ := hf it (by simp)
    have W := Walks.range (prog := X.prog) (w := X.w) (I.ok.hd hc) it lo 1 n
    refine W.item i s _ _ hg st fun v h' tk hv st' kk => ?_
    obtain ⟨t, rfl⟩ := hv
    have I1 : Inv X pins σ H { s with heap := h', toks := tk } := I.turned (fun b o hb e => kk b o (by simpa using hb) e) f0 f1 f3 f4 f5
    refine ⟨_, rfl, go_of (s := { s with heap := h', toks := tk }) (n := "range_iterator") st' rfl rfl (by decide) ⟨.int (lo + i), H, I1, ⟨t, ?_⟩, ⟨rfl, rfl⟩, st', fun b hb => (hf b hb).1⟩⟩
    rw [Int.mul_one]
  done := by
    intro X hP hw hK hc i pins s σ H E I hf st hg
    subst hP hw hK
    obtain ⟨f0, f1, f2, f3, f4, f5⟩ := hf it (by simp)
    exact wpAny_pyNext_range_end (I.ok.hd hc) st (by have : n ≤ i := hg; omega) fun h' eb => ⟨rfl, I.turned (t' := s.toks) (fun b o hb e => eb b o hb e) f0 f1 f3 f4 f5⟩
  self := fun _ _ _ _ _ st h => wpAny_pyIter_rangeiter st h
end L2

namespace L2
open PySem PySem.Spec PyProof.Rows
section
variable {X : Cx} {tg : Expr}
def iList (K : PySem.W.Frag) (tl : TE) : TI := fun σ H R => tl σ H fun x H1 => ∃ a, x = .ref a ∧ (∃ xs, SqL K H1 a xs) ∧ R (Itl K a) H1
def iTup (K : PySem.W.Frag) (tl : TE) : TI := fun σ H R => tl σ H fun x H1 => ∃ a, x = .ref a ∧ (∃ xs, SqT K H1 a xs) ∧ R (Itt K a) H1
theorem pi_list {l : Expr} {tl : TE} (hl : PE X l tl) : PI X tg l (iList X.K tl) := by
  intro pins s σ H R I h
  refine thn (hl pins s σ H _ I h) fun v s1 ⟨x, H1, I1, r1, q1⟩ => ?_
  obtain ⟨a, e, ⟨xs, hq⟩, q⟩ := q1
  subst e
  cases r1
  obtain ⟨its, rv, p, hz⟩ := I1.list hq
  refine wpAny_pyIter_list p.isList ?_
  refine ⟨s1.heap.objs.size, [s1.heap.objs.size], _, _, H1, rfl, I1.kept (t' := s1.toks) fun b o e => Heap.get?_push_of_some _ e, turn_list a _, ⟨_, Heap.get?_push_size _ rfl, rfl, rfl⟩, fun b hb => ?_, q⟩
  have e : b = s1.heap.objs.size := by simpa using hb
  subst e
  exact I1.fpOk (Nat.le_refl _) (I1.hok.fresh (Nat.le_refl _))
/-- a range object just made, walked -/
theorem range_it {pins : List (Addr × Obj)} {σ : St} {H : Hp} {s : Shared} {R : It → Hp → Prop} {E : Value → Shared → Prop} {lo hi : Int} {t u v : Tok} {tk : Nat} (I : Inv X pins σ H s) (h1 : -(2 ^ 62) ≤ lo) (h2 : lo < 2 ^ 62) (h3 : -(2 ^ 62) ≤ hi) (h4 : hi < 2 ^ 62)
    (q : R (Itr lo (hi - lo).toNat) H) : wpAny (model X.prog X.w) X.A (pyIter (.ref s.heap.objs.size)) (PIE X pins σ tg R) E { s with heap := s.heap.push { cls := .type "range", data := .fields #[.int lo t, .int hi u, .int 1 v] }, toks := tk } := by
  refine wpAny_pyIter_range (IsRange.new ..) (small_one h1 h2 h3 h4) ?_
  have I1 : Inv X pins σ H { s with heap := s.heap.push { cls := .type "range", data := .fields #[.int lo t, .int hi u, .int 1 v] }, toks := tk } := I.kept fun b o e => Heap.get?_push_of_some _ e
  refine ⟨(s.heap.push { cls := .type "range", data := .fields #[.int lo t, .int hi u, .int 1 v] }).objs.size, [(s.heap.push { cls := .type "range", data := .fields #[.int lo t, .int hi u, .int 1 v] }).objs.size], _, _, H, rfl,
    I1.kept (t' := tk) fun b o e => Heap.get?_push_of_some _ e, turn_range _ lo (hi - lo).toNat, ?_, fun b hb => ?_, q⟩
  · have e1 : lo + ((0 : Nat) : Int) * 1 = lo := by simp
    have e2 : (((hi - lo).toNat : Nat) : Int) - ((0 : Nat) : Int) = Builtin.Range.rangeSize lo hi 1 := by rw [rangeSize_one]; split <;> omega
    show IsRangeIter _ _ (lo + ((0 : Nat) : Int) * 1) ((((hi - lo).toNat : Nat) : Int) - ((0 : Nat) : Int)) 1
    rw [e1, e2]
    exact Heap.get?_push_size _ rfl
  · have e : b = (s.heap.push { cls := .type "range", data := .fields #[.int lo t, .int hi u, .int 1 v] }).objs.size := by simpa using hb
    subst e
    exact I1.fpOk (Nat.le_refl _) (I1.hok.fresh (Nat.le_refl _))
def iRng1 (ta : TA) : TI := fun σ H R => ta σ H fun vs H1 => ∃ j : Int, vs = [.int j] ∧ -(2 ^ 62) ≤ j ∧ j < 2 ^ 62 ∧ R (Itr 0 j.toNat) H1
def iRng2 (ta : TA) : TI := fun σ H R => ta σ H fun vs H1 => ∃ i j : Int, vs = [.int i, .int j] ∧ (-(2 ^ 62) ≤ i ∧ i < 2 ^ 62 ∧ -(2 ^ 62) ≤ j ∧ j < 2 ^ 62) ∧ R (Itr i (j - i).toNat) H1
theorem pi_range1 {a : Expr} {ta : TA} {p pos : Pos} (hg : Gl X "range") (hm : X.mg "range" = none) (ha : PA X [a] ta) (hs : starEach [a] X.env = [(false, eval a X.env)] := by rfl) : PI X tg (.Call (.Name "range" p) [a] [] pos) (iRng1 ta) := by
  intro pins s σ H R I h
  refine Call_ (ld_blt I hg hm boot_range (PyProof.Rows.callWith_type1 (thn (ha pos pins s σ H _ I h) fun us s1 ⟨vs, H1, I1, r1, q1⟩ => ?_) hs rfl))
  obtain ⟨j, e, q1, q2, q⟩ := q1
  subst e
  cases r1 with
  | cons r rr =>
    cases rr
    obtain ⟨t, rfl⟩ := r
    exact call_range_1 (range_it I1 (by omega) (by omega) q1 q2 (by simpa using q))
theorem pi_range2 {a b : Expr} {ta : TA} {p pos : Pos} (hg : Gl X "range") (hm : X.mg "range" = none) (ha : PA X [a, b] ta) (hs : starEach [a, b] X.env = [(false, eval a X.env), (false, eval b X.env)] := by rfl) (hs2 : starEach [b] X.env = [(false, eval b X.env)] := by rfl) :
    PI X tg (.Call (.Name "range" p) [a, b] [] pos) (iRng2 ta) := by
  intro pins s σ H R I h
  refine Call_ (ld_blt I hg hm boot_range (PyProof.Rows.callWith_type1 (thn (ha pos pins s σ H _ I h) fun us s1 ⟨vs, H1, I1, r1, q1⟩ => ?_) (by rw [hs, hs2]) (by rw [hs2]; rfl)))
  obtain ⟨i, j, e, ⟨q1, q2, q3, q4⟩, q⟩ := q1
  subst e
  cases r1 with
  | cons r rr =>
    cases rr with
    | cons r' rr =>
      cases rr
      obtain ⟨t, rfl⟩ := r
      obtain ⟨t', rfl⟩ := r'
      exact call_range_2 (range_it I1 q1 q2 q3 q4 q)

/-! ### for -/
/-- W: the invariant by the turn and a measure; N: what the body is to reach -/
def tFor (wi : TI) (g : TG) (tb : TS) : TS := fun D σ H => wi σ H fun J H1 => ∃ W : Nat → Nat → St → Hp → Prop, (∃ m, W 0 m σ H1) ∧ ∀ i m σ H, W i m σ H →
  (J.stop i H ∧ D.nx σ H) ∨ (J.go i H ∧ ∃ N : St → Hp → Prop, (∀ σ' H', N σ' H' → ∃ m', m' < m ∧ W (i + 1) m' σ' H') ∧ ∀ x H', J.yld i H x H' → g x σ H' fun σ2 H2 => tb { D with nx := N, ct := N, bk := D.nx } σ2 H2)
/-- the records at fp as they stand -/
def pinsAt (fp : List Addr) (h : Heap) : List (Addr × Obj) := fp.filterMap fun b => (h.get? b).map fun o => (b, o)
theorem mem_pinsAt {fp : List Addr} {h : Heap} {b : Addr} {o : Obj} (hb : b ∈ fp) (e : h.get? b = some o) : (b, o) ∈ pinsAt fp h := List.mem_filterMap.mpr ⟨b, hb, by rw [e]; rfl⟩
theorem of_pinsAt {fp : List Addr} {h : Heap} {p : Addr × Obj} (hp : p ∈ pinsAt fp h) : p.1 ∈ fp ∧ h.get? p.1 = some p.2 := by
  obtain ⟨b, hb, e⟩ := List.mem_filterMap.mp hp
  cases q : h.get? b with
  | none => rw [q] at e; cases e
  | some o =>
    rw [q] at e
    have e' : (b, o) = p := Option.some.inj e
    subst e'
    exact ⟨hb, q⟩
theorem Inv.pinned {pins : List (Addr × Obj)} {σ : St} {H : Hp} {s : Shared} {fp : List Addr} (I : Inv X pins σ H s) (hf : ∀ b ∈ fp, FpOk X pins H b) (ho : ∀ b ∈ fp, ∃ o, s.heap.get? b = some o ∧ ∀ v, o.data ≠ .cell v) : Inv X (pins ++ pinsAt fp s.heap) σ H s :=
  I.pins_of fun p hp => (List.mem_append.mp hp).elim (fun z => I.pin p (List.mem_append_right _ z)) fun z => by
    obtain ⟨hb, e⟩ := of_pinsAt z
    obtain ⟨f0, f1, f2, _⟩ := hf p.1 hb
    obtain ⟨o, e', d⟩ := ho p.1 hb
    rw [e] at e'; cases e'
    exact ⟨e, f0, f1, f2, d⟩
theorem Inv.unpinned {pins pl : List (Addr × Obj)} {σ : St} {H : Hp} {s : Shared} (I : Inv X (pins ++ pl) σ H s) : Inv X pins σ H s := I.pins_of fun p hp => I.pin p (List.mem_append_right _ (List.mem_append_left _ hp))
theorem ps_for {iter : Expr} {body : List Stmt} {wi : TI} {g : TG} {tb : TS} {pos : Pos} (hp : PassesOwn (model X.prog X.w) X.A X.env X.xe) (hc : X.calm = true) (hi : PI X tg iter wi) (hg : PG X tg g) (hb : PSs X body tb)
    (hs : ∀ x, foldedSetIterable iter X.env x = pure x := by intro _; rfl) : PS X (.For tg iter body [] pos) (tFor wi g tb) := by
  intro pins s σ H D I h
  refine wpAny_For (thn (hi pins s σ H _ I h) fun v s1 h1 => thn h1 fun itv s2 h2 => ?_) hs
  obtain ⟨it, fp, tn, J, H2, e, I2, T, st2, f2, W, ⟨m0, w0⟩, turn⟩ := h2
  subst e
  -- what stays true of the iterator's objects through the loop
  have stat : ∀ {H' : Hp}, (∀ b ∈ fp, H' b = none) → ∀ b ∈ fp, FpOk X pins H' b := fun hn b hb => ⟨hn b hb, (f2 b hb).2⟩
  refine codeAny_forLoop_any (fun n s' => ∃ i σ' H', Inv X pins σ' H' s' ∧ tn i s'.heap ∧ (∀ b ∈ fp, H' b = none) ∧ W i n σ' H') ?_ m0 ⟨0, σ, H2, I2, st2, fun b hb => (f2 b hb).1, w0⟩
  rintro n s3 ⟨i, σ3, H3, I3, st3, fr3, w3⟩
  rcases turn i n σ3 H3 w3 with ⟨stop, qn⟩ | ⟨go, N, hN, step⟩
  · refine wpAny_passesOwn hp (thn (T.done X rfl rfl rfl hc i pins s3 σ3 H3 X.xe I3 (stat fr3) st3 stop) fun r s4 ⟨hr, I4⟩ => ?_)
    subst hr
    exact wpAny_execs_nil ⟨σ3, H3, I4, qn⟩
  · refine wpAny_passesOwn hp (thn (T.item X rfl rfl rfl hc i pins s3 σ3 H3 X.xe I3 (stat fr3) st3 go) fun r s4 ⟨u, hr, h4⟩ => ?_)
    subst hr
    refine wpAny_passesOwn hp (thn h4 fun _ s5 ⟨x, H5, I5, r5, y5, st5, fr5⟩ => ?_)
    have I5' := I5.pinned (stat fr5) (T.obj _ _ st5)
    refine wpAny_passesOwn hp (thn (hg _ s5 σ3 H5 x u _ I5' r5 (step x H5 y5)) fun _ s6 ⟨σ6, H6, I6, q6⟩ => ?_)
    refine wpAny_passesOwn hp (thn (hb _ s6 σ6 H6 _ I6 q6) fun f s7 q7 => ?_)
    have again : ∀ {σ7 : St} {H7 : Hp}, Inv X (pins ++ pinsAt fp s5.heap) σ7 H7 s7 → N σ7 H7 → ∃ m, m < n ∧ ∃ i σ' H', Inv X pins σ' H' s7 ∧ tn i s7.heap ∧ (∀ b ∈ fp, H' b = none) ∧ W i m σ' H' := fun {σ7 H7} I7 n7 => by
      obtain ⟨m', hm, w7⟩ := hN σ7 H7 n7
      refine ⟨m', hm, i + 1, σ7, H7, I7.unpinned, T.keep _ _ _ st5 fun b hb o e => (I7.pin (b, o) (List.mem_append_right _ (List.mem_append_right _ (mem_pinsAt hb e)))).1, fun b hb => ?_, w7⟩
      obtain ⟨o, e, d⟩ := T.obj _ _ st5 b hb
      exact (I7.pin (b, o) (List.mem_append_right _ (List.mem_append_right _ (mem_pinsAt hb e)))).2.1
    cases f with
    | next => obtain ⟨σ7, H7, I7, n7⟩ := q7; exact again I7 n7
    | cont => obtain ⟨σ7, H7, I7, n7⟩ := q7; exact again I7 n7
    | brk => obtain ⟨σ7, H7, I7, q7⟩ := q7; exact ⟨σ7, H7, I7.unpinned, q7⟩
    | ret v => obtain ⟨x7, σ7, H7, I7, r7, q7⟩ := q7; exact ⟨x7, σ7, H7, I7.unpinned, r7, q7⟩
end

/-! ### the forms one uses -/
/-- over a list that the body leaves as it is -/
theorem for_list {K : PySem.W.Frag} {a : Addr} {xs : List V} {g : TG} {tb : TS} {D : Ends} {σ : St} {H : Hp} (Pv : Nat → St → Hp → Prop) (h0 : Pv 0 σ H) (hl : ∀ i σ H, i ≤ xs.length → Pv i σ H → SqL K H a xs)
    (hs : ∀ i x σ H, xs[i]? = some x → Pv i σ H → g x σ H fun σ2 H2 => tb { D with nx := Pv (i + 1), ct := Pv (i + 1), bk := D.nx } σ2 H2) (hd : ∀ σ H, Pv xs.length σ H → D.nx σ H) :
    ∃ W : Nat → Nat → St → Hp → Prop, (∃ m, W 0 m σ H) ∧ ∀ i m σ H, W i m σ H →
      ((Itl K a).stop i H ∧ D.nx σ H) ∨ ((Itl K a).go i H ∧ ∃ N : St → Hp → Prop, (∀ σ' H', N σ' H' → ∃ m', m' < m ∧ W (i + 1) m' σ' H') ∧ ∀ x H', (Itl K a).yld i H x H' → g x σ H' fun σ2 H2 => tb { D with nx := N, ct := N, bk := D.nx } σ2 H2) := by
  refine ⟨fun i m σ H => m = xs.length - i ∧ i ≤ xs.length ∧ Pv i σ H, ⟨xs.length, by simp, Nat.zero_le _, h0⟩, ?_⟩
  rintro i m σ H ⟨rfl, hi, p⟩
  have q := hl i σ H hi p
  by_cases hlt : i < xs.length
  · refine .inr ⟨⟨xs, xs[i], q, by simp [hlt]⟩, Pv (i + 1), fun σ' H' p' => ⟨xs.length - (i + 1), by omega, rfl, hlt, p'⟩, fun x H' y => ?_⟩
    obtain ⟨e, y⟩ := y
    subst e
    exact hs i x σ _ (y xs q) p
  · have e : i = xs.length := by omega
    subst e
    exact .inl ⟨⟨xs, q, Nat.le_refl _⟩, hd σ H p⟩
theorem for_range {lo : Int} {n : Nat} {g : TG} {tb : TS} {D : Ends} {σ : St} {H : Hp} (Pv : Nat → St → Hp → Prop) (h0 : Pv 0 σ H)
    (hs : ∀ i σ H, i < n → Pv i σ H → g (.int (lo + i)) σ H fun σ2 H2 => tb { D with nx := Pv (i + 1), ct := Pv (i + 1), bk := D.nx } σ2 H2) (hd : ∀ σ H, Pv n σ H → D.nx σ H) :
    ∃ W : Nat → Nat → St → Hp → Prop, (∃ m, W 0 m σ H) ∧ ∀ i m σ H, W i m σ H →
      ((Itr lo n).stop i H ∧ D.nx σ H) ∨ ((Itr lo n).go i H ∧ ∃ N : St → Hp → Prop, (∀ σ' H', N σ' H' → ∃ m', m' < m ∧ W (i + 1) m' σ' H') ∧ ∀ x H', (Itr lo n).yld i H x H' → g x σ H' fun σ2 H2 => tb { D with nx := N, ct := N, bk := D.nx } σ2 H2) := by
  refine ⟨fun i m σ H => m = n - i ∧ i ≤ n ∧ Pv i σ H, ⟨n, by simp, Nat.zero_le _, h0⟩, ?_⟩
  rintro i m σ H ⟨rfl, hi, p⟩
  by_cases hlt : i < n
  · refine .inr ⟨hlt, Pv (i + 1), fun σ' H' p' => ⟨n - (i + 1), by omega, rfl, hlt, p'⟩, fun x H' y => ?_⟩
    obtain ⟨e, y⟩ := y
    subst e y
    exact hs i σ _ hlt p
  · have e : i = n := by omega
    subst e
    exact .inl ⟨Nat.le_refl _, hd σ H p⟩
end L2

namespace L2
open PySem PySem.Spec PyProof.Rows

abbrev R2 := V → V → Hp → VK → Prop
/-- a two-place operation on values: f is binaryOp op, inplaceOp op or compareOp op -/
def OpR (X : Cx) (f : Value → Value → Sem Value) (r : R2) : Prop :=
  ∀ (pins : List (Addr × Obj)) (s : Shared) (σ : St) (H : Hp) (x y : V) (v u : Value) (Q : VK), Inv X pins σ H s → RelV x v → RelV y u → r x y H Q →
    wpAny (model X.prog X.w) X.A (f v u) (EP X pins σ Q) X.xe s
/-- a one-place operation -/
def UnR (X : Cx) (f : Value → Sem Value) (r : V → Hp → VK → Prop) : Prop :=
  ∀ (pins : List (Addr × Obj)) (s : Shared) (σ : St) (H : Hp) (x : V) (v : Value) (Q : VK), Inv X pins σ H s → RelV x v → r x H Q →
    wpAny (model X.prog X.w) X.A (f v) (EP X pins σ Q) X.xe s
/-- a call of a value that is known (a builtin, a type) with values -/
def CallR (X : Cx) (f : Value) (r : List V → Hp → VK → Prop) : Prop :=
  ∀ (pins : List (Addr × Obj)) (s : Shared) (σ : St) (H : Hp) (xs : List V) (us : List Value) (Q : VK), Inv X pins σ H s → Vals xs us → r xs H Q →
    wpAny (model X.prog X.w) X.A (call f us) (EP X pins σ Q) X.xe s
/-- a value's truth -/
def TruR (X : Cx) (r : V → Hp → (Bool → Hp → Prop) → Prop) : Prop :=
  ∀ (pins : List (Addr × Obj)) (s : Shared) (σ : St) (H : Hp) (x : V) (v : Value) (Q : Bool → Hp → Prop), Inv X pins σ H s → RelV x v → r x H Q →
    wpAny (model X.prog X.w) X.A (truthy v) (TP X pins σ Q) X.xe s

def tOp (r : R2) (ta tb : TE) : TE := fun σ H Q => ta σ H fun x H1 => tb σ H1 fun y H2 => r x y H2 Q
def tUn (r : V → Hp → VK → Prop) (ta : TE) : TE := fun σ H Q => ta σ H fun x H1 => r x H1 Q
/-- ints in, under C, and a value out -/
def rI (C : Int → Int → Prop) (g : Int → Int → V) : R2 := fun x y H Q => ∃ i j, x = .int i ∧ y = .int j ∧ C i j ∧ Q (g i j) H
def rI0 (g : Int → Int → V) : R2 := fun x y H Q => ∃ i j, x = .int i ∧ y = .int j ∧ Q (g i j) H
def rU (g : Int → V) : V → Hp → VK → Prop := fun x H Q => ∃ i, x = .int i ∧ Q (g i) H

section
variable {X : Cx} {a b c : Expr} {ta tb tc : TE} {pos : Pos}

theorem binT (ha : PE X a ta) (hb : PE X b tb) {pins : List (Addr × Obj)} {s : Shared} {σ : St} {H : Hp} {R : V → V → Hp → Prop} (I : Inv X pins σ H s)
    (h : ta σ H fun x H1 => tb σ H1 fun y H2 => R x y H2) {Q : Value → Shared → Prop} {f : Value → Value → Sem Value}
    (hf : ∀ v u s2 x y H2, Inv X pins σ H2 s2 → RelV x v → RelV y u → R x y H2 → wpAny (model X.prog X.w) X.A (f v u) Q X.xe s2) :
    wpAny (model X.prog X.w) X.A (eval a X.env) (fun v s₁ => wpAny (model X.prog X.w) X.A (eval b X.env) (fun u s₂ => wpAny (model X.prog X.w) X.A (f v u) Q X.xe s₂) X.xe s₁) X.xe s := by
  refine thn (ha pins s σ H _ I h) fun v s1 ⟨x, H1, I1, r1, q1⟩ => ?_
  refine thn (hb pins s1 σ H1 _ I1 q1) fun u s2 ⟨y, H2, I2, r2, q2⟩ => ?_
  exact hf v u s2 x y H2 I2 r1 r2 q2

theorem pe_op {op : Operator} {r : R2} (ho : OpR X (binaryOp op) r) (ha : PE X a ta) (hb : PE X b tb) : PE X (.BinOp a op b pos) (tOp r ta tb) := by
  intro pins s σ H Q I h
  exact wpAny_BinOp (binT ha hb I h fun v u s2 x y H2 I2 rx ry q => ho pins s2 σ H2 x y v u Q I2 rx ry q)

/-! ### ints -/
theorem opI {f : Value → Value → Sem Value} {C : Int → Int → Prop} {g : Int → Int → Int}
    (rule : ∀ (i j : Int) (t u : Tok) (s : Shared) (Q : Value → Shared → Prop) (E : Value → Shared → Prop), C i j → Q (.int (g i j) s.toks) { s with toks := s.toks + 1 } → wpAny (model X.prog X.w) X.A (f (.int i t) (.int j u)) Q E s) :
    OpR X f (rI C fun i j => .int (g i j)) := by
  intro pins s σ H x y v u Q I rx ry h
  obtain ⟨i, j, rfl, rfl, hc, q⟩ := h
  obtain ⟨t, rfl⟩ := rx
  obtain ⟨t', rfl⟩ := ry
  exact rule i j t t' s _ _ hc ⟨.int (g i j), H, I.tok _, ⟨_, rfl⟩, q⟩
theorem opI0 {f : Value → Value → Sem Value} {g : Int → Int → Int}
    (rule : ∀ (i j : Int) (t u : Tok) (s : Shared) (Q : Value → Shared → Prop) (E : Value → Shared → Prop), Q (.int (g i j) s.toks) { s with toks := s.toks + 1 } → wpAny (model X.prog X.w) X.A (f (.int i t) (.int j u)) Q E s) :
    OpR X f (rI0 fun i j => .int (g i j)) := by
  intro pins s σ H x y v u Q I rx ry h
  obtain ⟨i, j, rfl, rfl, q⟩ := h
  obtain ⟨t, rfl⟩ := rx
  obtain ⟨t', rfl⟩ := ry
  exact rule i j t t' s _ _ ⟨.int (g i j), H, I.tok _, ⟨_, rfl⟩, q⟩
theorem opB0 {f : Value → Value → Sem Value} {g : Int → Int → Bool}
    (rule : ∀ (i j : Int) (t u : Tok) (s : Shared) (Q : Value → Shared → Prop) (E : Value → Shared → Prop), Q (.bool (g i j)) s → wpAny (model X.prog X.w) X.A (f (.int i t) (.int j u)) Q E s) :
    OpR X f (rI0 fun i j => .bl (g i j)) := by
  intro pins s σ H x y v u Q I rx ry h
  obtain ⟨i, j, rfl, rfl, q⟩ := h
  obtain ⟨t, rfl⟩ := rx
  obtain ⟨t', rfl⟩ := ry
  exact rule i j t t' s _ _ ⟨.bl (g i j), H, I, rfl, q⟩

def CDiv (i j : Int) : Prop := 0 < j ∧ j < 1073741824
def CDivN (i j : Int) : Prop := j ≠ 0 ∧ j.natAbs < 1073741824
def CPow (i j : Int) : Prop := 0 ≤ j ∧ j ≤ 1000000 ∧ i.natAbs < 2 ^ 64
def CMul (i j : Int) : Prop := (-(2 ^ 64) < i ∧ i < 2 ^ 64) ∨ (-(2 ^ 64) < j ∧ j < 2 ^ 64)
theorem CMul.ok {i j : Int} (h : CMul i j) : IntMulOk i j := by
  rcases h with ⟨h1, h2⟩ | ⟨h1, h2⟩
  · exact .of_left (intBits_le_64 h1 h2)
  · exact .of_right (intBits_le_64 h1 h2)
theorem two_pow_nn (k : Nat) : (0 : Int) ≤ 2 ^ k := by
  rw [two_pow_cast]
  exact Int.natCast_nonneg _

theorem op_add : OpR X (binaryOp .Add) (rI0 fun i j => .int (i + j)) := opI0 fun _ _ _ _ _ _ _ q => add_int q
theorem op_sub : OpR X (binaryOp .Sub) (rI0 fun i j => .int (i - j)) := opI0 fun _ _ _ _ _ _ _ q => sub_int q
theorem op_mul : OpR X (binaryOp .Mult) (rI CMul fun i j => .int (i * j)) := opI fun _ _ _ _ _ _ _ hc q => mul_int q hc.ok
/-- // by a positive divisor -/
theorem op_fdiv : OpR X (binaryOp .FloorDiv) (rI CDiv fun i j => .int (i / j)) := opI fun i j _ _ _ _ _ hc q => by
  have h1 : (0 : Int) < j := hc.1
  have h2 : j < 1073741824 := hc.2
  exact floordiv_int (by omega) (by rw [Int.fdiv_eq_ediv_of_nonneg i (by omega)]; exact q) (.inl (PyProof.noPylong_small (by omega)))
/-- % by a positive divisor of any size -/
theorem op_mod : OpR X (binaryOp .Mod) (rI (fun _ j => 0 < j) fun i j => .int (i % j)) := opI fun i j _ _ _ _ _ hc q => by
  have h1 : (0 : Int) < j := hc
  exact mod_int' (by omega) (by rw [Int.fmod_eq_emod_of_nonneg i (by omega)]; exact q)
theorem op_shl : OpR X (binaryOp .LShift) (rI CPow fun i j => .int (i * 2 ^ j.toNat)) := opI fun _ _ _ _ _ _ _ hc q => lshift_int_small hc.1 hc.2.1 hc.2.2 q
theorem op_shr : OpR X (binaryOp .RShift) (rI (fun _ j => 0 ≤ j) fun i j => .int (i / 2 ^ j.toNat)) := opI fun i j _ _ _ _ _ hc q =>
  rshift_int hc (by rw [Int.fdiv_eq_ediv_of_nonneg i (two_pow_nn _)]; exact q)
theorem op_and : OpR X (binaryOp .BitAnd) (rI0 fun i j => .int (Builtin.bitAnd i j)) := opI0 fun _ _ _ _ _ _ _ q => and_int q



/-! ### bools among ints: n += (a < b) -/
end

/-! ### comparisons -/
/-- the scalars that == tells apart as data does -/
def scal : V → V → Bool
  | .non, .non => true | .non, .int _ => true | .int _, .non => true | .non, .bl _ => true | .bl _, .non => true | .non, .str _ => true | .str _, .non => true
  | .int _, .int _ => true | .bl _, .bl _ => true | .str _, .str _ => true | .byt _, .byt _ => true
  | .int _, .str _ => true | .str _, .int _ => true | .bl _, .str _ => true | .str _, .bl _ => true
  | _, _ => false
def rEq : R2 := fun x y H Q => scal x y = true ∧ Q (.bl (decide (x = y))) H
def rNe : R2 := fun x y H Q => scal x y = true ∧ Q (.bl (!decide (x = y))) H

theorem dec_int {i j : Int} : decide (V.int i = V.int j) = (i == j) := by
  rw [Bool.eq_iff_iff]
  simp
theorem dec_bl {i j : Bool} : decide (V.bl i = V.bl j) = (i == j) := by
  rw [Bool.eq_iff_iff]
  simp
theorem dec_str {i j : Str} : decide (V.str i = V.str j) = (i == j) := by
  rw [Bool.eq_iff_iff]
  simp
theorem dec_byt {i j : Array UInt8} : decide (V.byt i = V.byt j) = (i.toList == j.toList) := by
  rw [Bool.eq_iff_iff]
  cases i
  cases j
  simp

section
variable {X : Cx} {a b c : Expr} {ta tb tc : TE} {pos : Pos}
theorem fin_bl {pins : List (Addr × Obj)} {σ : St} {H : Hp} {s : Shared} {Q : VK} {k k' : Bool} (I : Inv X pins σ H s) (q : Q (.bl k) H) (e : k = k') : EP X pins σ Q (.bool k') s := by
  subst e
  exact ⟨.bl k, H, I, rfl, q⟩
theorem op_eq : OpR X (compareOp .Eq) rEq := by
  intro pins s σ H x y v u Q I rx ry h
  obtain ⟨hs, q⟩ := h
  cases x with
  | non =>
    cases rx
    cases y with
    | non => cases ry; exact PySem.EqNone.eq_none_none (fin_bl I q (by simp))
    | bl j => cases ry; exact PySem.EqNone.eq_none_bool (fin_bl I q (by simp))
    | int j => obtain ⟨t', rfl⟩ := ry; exact PySem.EqNone.eq_none_int (fin_bl I q (by simp))
    | str j => obtain ⟨t', rfl⟩ := ry; exact PySem.EqNone.eq_none_str (fin_bl I q (by simp))
    | _ => exact absurd (show false = true from hs) Bool.false_ne_true
  | bl i =>
    cases rx
    cases y with
    | non => cases ry; exact PySem.EqNone.eq_bool_none (fin_bl I q (by simp))
    | bl j => cases ry; exact eq_bool (fin_bl I q dec_bl)
    | str j => obtain ⟨t', rfl⟩ := ry; exact PySem.EqMixed.eq_bool_str (fin_bl I q (by simp))
    | _ => exact absurd (show false = true from hs) Bool.false_ne_true
  | int i =>
    obtain ⟨t, rfl⟩ := rx
    cases y with
    | non => cases ry; exact PySem.EqNone.eq_int_none (fin_bl I q (by simp))
    | int j => obtain ⟨t', rfl⟩ := ry; exact eq_int (fin_bl I q dec_int)
    | str j => obtain ⟨t', rfl⟩ := ry; exact PySem.EqMixed.eq_int_str (fin_bl I q (by simp))
    | _ => exact absurd (show false = true from hs) Bool.false_ne_true
  | str i =>
    obtain ⟨t, rfl⟩ := rx
    cases y with
    | non => cases ry; exact PySem.EqNone.eq_str_none (fin_bl I q (by simp))
    | bl j => cases ry; exact PySem.EqMixed.eq_str_bool (fin_bl I q (by simp))
    | int j => obtain ⟨t', rfl⟩ := ry; exact PySem.EqMixed.eq_str_int (fin_bl I q (by simp))
    | str j => obtain ⟨t', rfl⟩ := ry; exact eq_str (fin_bl I q dec_str)
    | _ => exact absurd (show false = true from hs) Bool.false_ne_true
  | byt i =>
    obtain ⟨t, rfl⟩ := rx
    cases y with
    | byt j => obtain ⟨t', rfl⟩ := ry; exact PySem.W.eq_bytes (fin_bl I q dec_byt)
    | _ => exact absurd (show false = true from hs) Bool.false_ne_true
  | _ => cases y <;> exact absurd (show false = true from hs) Bool.false_ne_true
theorem op_ne : OpR X (compareOp .NotEq) rNe := by
  intro pins s σ H x y v u Q I rx ry h
  obtain ⟨hs, q⟩ := h
  cases x with
  | non =>
    cases rx
    cases y with
    | non => cases ry; exact PySem.EqNone.ne_none_none (fin_bl I q (by simp))
    | bl j => cases ry; exact PySem.EqNone.ne_none_bool (fin_bl I q (by simp))
    | int j => obtain ⟨t', rfl⟩ := ry; exact PySem.EqNone.ne_none_int (fin_bl I q (by simp))
    | str j => obtain ⟨t', rfl⟩ := ry; exact PySem.EqNone.ne_none_str (fin_bl I q (by simp))
    | _ => exact absurd (show false = true from hs) Bool.false_ne_true
  | bl i =>
    cases rx
    cases y with
    | non => cases ry; exact PySem.EqNone.ne_bool_none (fin_bl I q (by simp))
    | bl j => cases ry; exact ne_bool (fin_bl I q (congrArg not dec_bl))
    | str j => obtain ⟨t', rfl⟩ := ry; exact PySem.EqMixed.ne_bool_str (fin_bl I q (by simp))
    | _ => exact absurd (show false = true from hs) Bool.false_ne_true
  | int i =>
    obtain ⟨t, rfl⟩ := rx
    cases y with
    | non => cases ry; exact PySem.EqNone.ne_int_none (fin_bl I q (by simp))
    | int j => obtain ⟨t', rfl⟩ := ry; exact ne_int (fin_bl I q (congrArg not dec_int))
    | str j => obtain ⟨t', rfl⟩ := ry; exact PySem.EqMixed.ne_int_str (fin_bl I q (by simp))
    | _ => exact absurd (show false = true from hs) Bool.false_ne_true
  | str i =>
    obtain ⟨t, rfl⟩ := rx
    cases y with
    | non => cases ry; exact PySem.EqNone.ne_str_none (fin_bl I q (by simp))
    | bl j => cases ry; exact PySem.EqMixed.ne_str_bool (fin_bl I q (by simp))
    | int j => obtain ⟨t', rfl⟩ := ry; exact PySem.EqMixed.ne_str_int (fin_bl I q (by simp))
    | str j => obtain ⟨t', rfl⟩ := ry; exact ne_str (fin_bl I q (congrArg not dec_str))
    | _ => exact absurd (show false = true from hs) Bool.false_ne_true
  | byt i =>
    obtain ⟨t, rfl⟩ := rx
    cases y with
    | byt j => obtain ⟨t', rfl⟩ := ry; exact PySem.W.ne_bytes (fin_bl I q (congrArg not dec_byt))
    | _ => exact absurd (show false = true from hs) Bool.false_ne_true
  | _ => cases y <;> exact absurd (show false = true from hs) Bool.false_ne_true

theorem op_lt : OpR X (compareOp .Lt) (rI0 fun i j => .bl (decide (i < j))) := opB0 fun _ _ _ _ _ _ _ q => lt_int q
theorem op_gt : OpR X (compareOp .Gt) (rI0 fun i j => .bl (decide (j < i))) := opB0 fun _ _ _ _ _ _ _ q => gt_int q
theorem op_lt_str : OpR X (compareOp .Lt) (fun x y H Q => ∃ i j, x = .str i ∧ y = .str j ∧ Q (.bl (decide (i.cps.toList < j.cps.toList))) H) := by
  intro pins s σ H x y v u Q I rx ry h
  obtain ⟨i, j, rfl, rfl, q⟩ := h
  obtain ⟨t, rfl⟩ := rx
  obtain ⟨t', rfl⟩ := ry
  exact lt_str (fin_bl I q rfl)

theorem op_notN : OpR X (compareOp .IsNot) (fun x y H Q => y = .non ∧ Q (.bl (!decide (x = .non))) H) := by
  intro pins s σ H x y v u Q I rx ry h
  obtain ⟨rfl, q⟩ := h
  cases ry
  refine isnot_none_gen (fin_bl I q ?_)
  cases x <;> first
    | (cases rx; rfl)
    | (obtain ⟨t, rfl⟩ := rx; rfl)

/-- is, is not of two objects that are tracked lists or instances -/
def isObj : HO → Bool
  | .lst _ => true
  | .ins _ _ _ => true
  | _ => false

/-- two rules for one operation: by cases -/
theorem OpR.or {f : Value → Value → Sem Value} {r r' : R2} (h : OpR X f r) (h' : OpR X f r') : OpR X f (fun x y H Q => r x y H Q ∨ r' x y H Q) := by
  intro pins s σ H x y v u Q I rx ry q
  rcases q with q | q
  · exact h pins s σ H x y v u Q I rx ry q
  · exact h' pins s σ H x y v u Q I rx ry q

theorem nomark (b : Expr) {op : CmpOp} (h : op ≠ .In := by decide) (h2 : op ≠ .NotIn := by decide) : behindInMarks op b = false := by
  have e1 : (op == CmpOp.In) = false := by cases op <;> first | rfl | exact absurd rfl h
  have e2 : (op == CmpOp.NotIn) = false := by cases op <;> first | rfl | exact absurd rfl h2
  cases b <;> simp [behindInMarks, e1, e2]
/-- a comparison as a value; hm: nomark b, or (for in, not in) by with_unfolding_all rfl -/
theorem pe_cmpR {op : CmpOp} {r : R2} (ho : OpR X (compareOp op) r) (ha : PE X a ta) (hb : PE X b tb) (hm : behindInMarks op b = false) : PE X (.Compare a [op] [b] pos) (tOp r ta tb) := by
  intro pins s σ H Q I h
  exact wpAny_Compare1 (binT ha hb I h fun v u s2 x y H2 I2 rx ry q => ho pins s2 σ H2 x y v u Q I2 rx ry q) hm
/-- a reading of a value as a test -/
def tTest (t : TE) : TT := fun σ H Q => t σ H fun x H' => ∃ k, x = .bl k ∧ Q k H'
theorem pt_cmpR {op : CmpOp} {r : R2} (ho : OpR X (compareOp op) r) (ha : PE X a ta) (hb : PE X b tb) (hm : behindInMarks op b = false) : PT X (.Compare a [op] [b] pos) (tTest (tOp r ta tb)) := by
  intro pins s σ H Q I h
  refine wpAny_isTrue_Compare1 (thn (ha pins s σ H _ I h) fun v s1 ⟨x, H1, I1, r1, q1⟩ => thn (hb pins s1 σ H1 _ I1 q1) fun u s2 ⟨y, H2, I2, r2, q2⟩ =>
    thn (ho pins s2 σ H2 x y v u _ I2 r1 r2 q2) fun c s3 ⟨z, H3, I3, r3, k, e, q3⟩ => ?_) hm
  subst e
  cases r3
  exact wpAny_truthy_bool ⟨H3, I3, q3⟩
/-- a op1 b op2 c -/
def tChain (r r' : R2) (ta tb tc : TE) : TE := fun σ H Q => ta σ H fun x H1 => tb σ H1 fun y H2 => r x y H2 fun z H3 => ∃ k, z = .bl k ∧
  (if k = true then tc σ H3 fun w' H4 => r' y w' H4 Q else Q (.bl false) H3)

/-! ### truth -/
/-- a value's truth by the abstract heap -/
def TruV (K : PySem.W.Frag) (x : V) (H : Hp) (k : Bool) : Prop :=
  match x with
  | .non => k = false
  | .bl b => k = b
  | .int i => k = (i != 0)
  | .str y => y.length ≤ sizeLine ∧ k = ((y.length : Int) != 0)
  | .byt y => y.size ≤ sizeLine ∧ k = ((y.size : Int) != 0)
  | .ref p => (∃ xs, SqL K H p xs ∧ k = !xs.isEmpty) ∨ (∃ xs, SqT K H p xs ∧ k = !xs.isEmpty) ∨ ∃ kvs, H p = some (.dK kvs) ∧ k = !kvs.isEmpty
  | _ => False
theorem isEmpty_kv {κ : Type} {kvs : List (κ × V)} {vs : List (κ × Value)} (r : KV kvs vs) : (!vs.isEmpty) = !kvs.isEmpty := by
  cases r <;> rfl
theorem isEmpty_of {xs : List V} {its : List Value} (r : Vals xs its) : (!its.toArray.isEmpty) = !xs.isEmpty := by
  cases r <;> simp
theorem line63 : (sizeLine : Nat) < 2 ^ 63 := by rw [sizeLine_eq]; decide
theorem tru_ok : TruR X (fun x H Q => ∃ k, TruV X.K x H k ∧ Q k H) := by
  intro pins s σ H x v Q I rx h
  obtain ⟨k, e, q⟩ := h
  have hl := line63
  have hs : sizeLine = 16777216 := sizeLine_eq
  cases x with
  | non =>
    cases rx
    have e' : k = false := e
    subst e'
    exact truthy_none ⟨H, I, q⟩
  | bl b =>
    cases rx
    have e' : k = b := e
    subst e'
    exact wpAny_truthy_bool ⟨H, I, q⟩
  | int i =>
    obtain ⟨t, rfl⟩ := rx
    have e' : k = (i != 0) := e
    subst e'
    exact PySem.P.truthy_int ⟨H, I, q⟩
  | str y =>
    obtain ⟨t, rfl⟩ := rx
    obtain ⟨hy, e'⟩ : y.length ≤ sizeLine ∧ k = ((y.length : Int) != 0) := e
    subst e'
    exact PySem.P.truthy_str (by omega) ⟨H, I.tok _, q⟩
  | byt y =>
    obtain ⟨t, rfl⟩ := rx
    obtain ⟨hy, e'⟩ : y.size ≤ sizeLine ∧ k = ((y.size : Int) != 0) := e
    subst e'
    exact PySem.W.truthy_bytes (by omega) ⟨H, I.tok _, q⟩
  | ref p =>
    cases rx
    have e' : (∃ xs, SqL X.K H p xs ∧ k = !xs.isEmpty) ∨ (∃ xs, SqT X.K H p xs ∧ k = !xs.isEmpty) ∨ ∃ kvs, H p = some (.dK kvs) ∧ k = !kvs.isEmpty := e
    rcases e' with ⟨xs, hx, e'⟩ | ⟨xs, hx, e'⟩ | ⟨kvs, hx, e'⟩
    · subst e'
      obtain ⟨its, r, pl, hz⟩ := I.list hx
      have hlen := r.length
      exact wpAny_truthy_list pl.isList (by simp only [List.size_toArray]; omega) ⟨H, I.tok _, by rw [isEmpty_of r]; exact q⟩
    · subst e'
      obtain ⟨its, r, pl, hz⟩ := I.tuple hx
      have hlen := r.length
      exact truthy_tuple pl (by simp only [List.size_toArray]; omega) ⟨H, I.tok _, by rw [isEmpty_of r]; exact q⟩
    · subst e'
      obtain ⟨hz, hS, vs, r, m⟩ : kvs.length ≤ sizeLine ∧ (p == sysModules) = false ∧ ∃ vs, KV kvs vs ∧ s.heap.DictOf (mixKind X.prog X.w) p vs := I.hok p _ hx
      have hlen : kvs.length = vs.length := Paired.length r
      exact wpAny_truthy_dict hS m (by omega) ⟨H, I.tok _, by rw [isEmpty_kv r]; exact q⟩
  | _ => exact (show False from e).elim
/-- any expression whose test is its value's truth (a name, a call, a subscript, a field ..: he by fun _ => rfl) -/
theorem pt_truth (ha : PE X a ta) (he : ∀ whole, isTrue a X.env whole = (do let v ← whole; standAt a.pos; holding [v] (truthy v))) :
    PT X a (fun σ H Q => ta σ H fun x H' => ∃ k, TruV X.K x H' k ∧ Q k H') := by
  intro pins s σ H Q I h
  exact isTrue_plain (thn (ha pins s σ H _ I h) fun v s1 ⟨x, H1, I1, r1, q1⟩ => tru_ok pins s1 σ H1 x v Q I1 r1 q1) (he _)

/-! ### strs and bytes -/
theorem op_add_str : OpR X (binaryOp .Add) (fun x y H Q => ∃ i j, x = .str i ∧ y = .str j ∧ i.length + j.length ≤ sizeLine ∧ Q (.str (i ++ j)) H) := by
  intro pins s σ H x y v u Q I rx ry h
  obtain ⟨i, j, rfl, rfl, hz, q⟩ := h
  obtain ⟨t, rfl⟩ := rx
  obtain ⟨t', rfl⟩ := ry
  exact add_str (fun t' tk => ⟨.str (i ++ j), H, I.tok _, ⟨_, rfl⟩, q⟩) hz

def PlainIxT (b : Expr) : Prop := ∀ o i, subscripted b false o i = operate [o, i] (getItem o i)

/-! ### scalar builtins, by CallR -/
theorem vals1 {x : V} {us : List Value} (r : Vals [x] us) : ∃ u, us = [u] ∧ RelV x u := by
  cases r with
  | cons r1 r2 => cases r2; exact ⟨_, rfl, r1⟩
theorem vals2 {x y : V} {us : List Value} (r : Vals [x, y] us) : ∃ u w', us = [u, w'] ∧ RelV x u ∧ RelV y w' := by
  cases r with
  | cons r1 r2 =>
    cases r2 with
    | cons r3 r4 => cases r4; exact ⟨_, _, rfl, r1, r3⟩
theorem call_max2 (hc : X.calm = true) : CallR X (.builtin "max") (fun xs H Q => ∃ i j, xs = [.int i, .int j] ∧ Q (.int (if j > i then j else i)) H) := by
  intro pins s σ H xs us Q I r h
  obtain ⟨i, j, rfl, q⟩ := h
  obtain ⟨u, w', rfl, ⟨t, rfl⟩, ⟨t', rfl⟩⟩ := vals2 r
  refine max_two_ints (I.ok.hd hc) fun h' tk k => ⟨_, H, I.kept k, ?_, q⟩
  by_cases hj : j > i
  · rw [if_pos hj, if_pos hj]; exact ⟨_, rfl⟩
  · rw [if_neg hj, if_neg hj]; exact ⟨_, rfl⟩
theorem call_int1 : CallR X (.type "int") (fun xs H Q => (∃ i, xs = [.int i] ∧ Q (.int i) H) ∨ ∃ k, xs = [.bl k] ∧ Q (.int (if k then 1 else 0)) H) := by
  intro pins s σ H xs us Q I r h
  rcases h with ⟨i, rfl, q⟩ | ⟨k, rfl, q⟩
  · obtain ⟨u, rfl, t, rfl⟩ := vals1 r
    exact call_int_int ⟨.int i, H, I, ⟨_, rfl⟩, q⟩
  · obtain ⟨u, rfl, r1⟩ := vals1 r
    cases r1
    exact call_int_bool ⟨.int (if k then 1 else 0), H, I.tok _, ⟨_, rfl⟩, q⟩
/-- len of a str, a bytes, a list, a tuple -/
def LenV (K : PySem.W.Frag) (x : V) (H : Hp) (n : Nat) : Prop :=
  match x with
  | .str y => y.length ≤ sizeLine ∧ n = y.length
  | .byt y => y.size ≤ sizeLine ∧ n = y.size
  | .ref p => (∃ xs, SqL K H p xs ∧ n = xs.length) ∨ ∃ xs, SqT K H p xs ∧ n = xs.length
  | _ => False
theorem call_len : CallR X (.builtin "len") (fun xs H Q => ∃ x n, xs = [x] ∧ LenV X.K x H n ∧ Q (.int n) H) := by
  intro pins s σ H xs us Q I r h
  obtain ⟨x, n, rfl, e, q⟩ := h
  obtain ⟨u, rfl, rx⟩ := vals1 r
  have hl := line63
  have hs : sizeLine = 16777216 := sizeLine_eq
  cases x with
  | str y =>
    obtain ⟨t, rfl⟩ := rx
    obtain ⟨hy, e'⟩ : y.length ≤ sizeLine ∧ n = y.length := e
    subst e'
    exact len_str (by omega) ⟨.int _, H, I.tok _, ⟨_, rfl⟩, q⟩
  | byt y =>
    obtain ⟨t, rfl⟩ := rx
    obtain ⟨hy, e'⟩ : y.size ≤ sizeLine ∧ n = y.size := e
    subst e'
    exact PySem.W.len_bytes (by omega) ⟨.int _, H, I.tok _, ⟨_, rfl⟩, q⟩
  | ref p =>
    cases rx
    have e' : (∃ xs, SqL X.K H p xs ∧ n = xs.length) ∨ ∃ xs, SqT X.K H p xs ∧ n = xs.length := e
    rcases e' with ⟨xs, hx, e'⟩ | ⟨xs, hx, e'⟩
    · subst e'
      obtain ⟨its, r', pl, hz⟩ := I.list hx
      have hlen := r'.length
      exact Calls.call_len_list pl.isList (by simp only [List.size_toArray]; omega) ⟨.int xs.length, H, I.tok _, ⟨_, by simp only [List.size_toArray]; rw [hlen]⟩, q⟩
    · subst e'
      obtain ⟨its, r', pl, hz⟩ := I.tuple hx
      have hlen := r'.length
      exact len_tuple pl (by simp only [List.size_toArray]; omega) ⟨.int xs.length, H, I.tok _, ⟨_, by simp only [List.size_toArray]; rw [hlen]⟩, q⟩
  | _ => exact (show False from e).elim
end
end L2

namespace L2
open PySem PySem.Spec PyProof.Rows

/-! ### an instance, its attributes a map -/
structure ObjM (h : Heap) (x dx C : Addr) (mA : Str → Option Value) : Prop where
  obj : h.get? x = some (PySem.W.instObj C dx)
  ns : h.Ns1 dx mA
  ne : dx ≠ x

theorem lookIn_ns {h : Heap} {dx : Addr} {mA : Str → Option Value} (n : h.Ns1 dx mA) : ∃ od, h.get? dx = some od ∧ ∀ name, PySem.W.lookIn name od = some (mA name) := by
  obtain ⟨o, es, ep, ho, hd, hk, _, hm⟩ := n
  refine ⟨o, ho, fun name => ?_⟩
  have e := hm name
  unfold nsFind findBy at e
  rw [← Array.find?_toList] at e
  unfold PySem.W.lookIn
  rw [hd]
  dsimp only
  split
  · rename_i y q
    rw [q] at e
    exact congrArg some e
  · rename_i q
    rw [q] at e
    have a : es.toList.any (·.refKey) = false := by
      rw [List.any_eq_false]
      intro y hy
      obtain ⟨z, t, hkey⟩ := hk y (Array.mem_toList_iff.mp hy)
      simp [DictEntry.refKey, hkey]
    have a' : ¬ es.toList.any (·.refKey) = true := by rw [a]; exact Bool.false_ne_true
    rw [if_neg a']
    exact congrArg some e

theorem ObjM.look {h : Heap} {x dx C : Addr} {mA : Str → Option Value} (I : ObjM h x dx C mA) : ∃ od, PySem.W.InstAt h x (PySem.W.instObj C dx) C (some od) ∧ ∀ name, PySem.W.lookIn name od = some (mA name) :=
  let ⟨od, ho, hl⟩ := lookIn_ns I.ns
  ⟨od, ⟨I.obj, rfl, rfl, ho⟩, hl⟩

section
variable {prog : Program} {w : World} {A : Around} {E : Value → Shared → Prop} {s : Shared} {K : PySem.W.Frag} {x dx C f : Addr} {mA : Str → Option Value} {name : Str} {v : Value}





end

/-! ### the attributes as a list of pairs -/
def putF (f : Str) (v : V) : List (Str × V) → List (Str × V)
  | [] => [(f, v)]
  | (g, x) :: r => if g = f then (g, v) :: r else (g, x) :: putF f v r

theorem RelO.some_of {v : V} {o : Option Value} (r : RelO (some v) o) : ∃ u, o = some u ∧ RelV v u := by
  cases o with
  | none => exact (show False from r).elim
  | some u => exact ⟨u, rfl, r⟩
theorem RelO.none_of {o : Option Value} (r : RelO none o) : o = none := by
  cases o with
  | none => rfl
  | some u => exact (show False from r).elim

section
variable {P : Program} {w : World} {H H' : Hp} {h h' : Heap} {a C dx : Addr} {fs fs' : List (Str × V)}
end

/-! ### what of the text a class must have -/
structure Cls (K : PySem.W.Frag) (C : Addr) : Prop where
  pg : PySem.W.plainGet K C Str.empty = true
  hd : PySem.W.hasDictIn K C = true
  po : PySem.W.plainOver K C = true
  sa : PySem.W.findIn K (.ref C) "__setattr__" = some (some (.builtin "object.__setattr__"))
theorem Cls.get {K : PySem.W.Frag} {C : Addr} (c : Cls K C) (f : Str) : PySem.W.plainGet K C f = true := c.pg
/-- no class of it has the name -/
def NoAttr (K : PySem.W.Frag) (C : Addr) (f : Str) : Prop := PySem.W.findIn K (.ref C) f = some none
/-- a constant of the class -/
structure Con (K : PySem.W.Frag) (C : Addr) (f : Str) (v : V) (u : Value) : Prop where
  at_ : PySem.W.findIn K (.ref C) f = some (some u)
  rel : RelV v u
  get : PySem.W.specialIn K u "__get__" = some none
  cp : PySem.W.copiedNames.contains f = false
/-- a method: a plain def of the class or of one above it -/
structure Meth (K : PySem.W.Frag) (C : Addr) (m : Str) (f : Addr) : Prop where
  at_ : PySem.W.findIn K (.ref C) m = some (some (.ref f))
  fn : PySem.W.isFn K (.ref f) = true
  kp : PySem.W.keepIn K (.ref f) = true

section
variable {X : Cx} {pins : List (Addr × Obj)} {σ : St} {H : Hp} {s : Shared} {a C dx : Addr} {fs : List (Str × V)} {f : Str} {v : V} {A : Around} {E : Value → Shared → Prop}





/-- a new instance, tracked, without attributes -/
theorem Inv.made (I : Inv X pins σ H s) : Inv X pins σ (upd (upd H s.heap.objs.size (.own (s.heap.objs.size + 1))) (s.heap.objs.size + 1) (.ins C s.heap.objs.size []))
    { s with heap := (s.heap.push PySem.W.emptyDict).push (PySem.W.instObj C s.heap.objs.size) } := by
  have e1 : (s.heap.push PySem.W.emptyDict).get? s.heap.objs.size = some PySem.W.emptyDict := Heap.get?_push_size s.heap rfl
  have e2 : ((s.heap.push PySem.W.emptyDict).push (PySem.W.instObj C s.heap.objs.size)).get? (s.heap.objs.size + 1) = some (PySem.W.instObj C s.heap.objs.size) := by
    have := Heap.get?_push_size (s.heap.push PySem.W.emptyDict) (o := PySem.W.instObj C s.heap.objs.size) rfl
    rwa [Heap.size_push] at this
  have e3 : (s.heap.push PySem.W.emptyDict).Ns s.heap.objs.size (fun _ => none) := ⟨PySem.W.emptyDict, #[], _, e1, rfl, (fun e he => absurd he (by simp)), fun _ => rfl⟩
  have I1 := I.laid (a := s.heap.objs.size) (o := .own (s.heap.objs.size + 1)) (h' := s.heap.push PySem.W.emptyDict) (t' := s.toks) (fun b u q => Heap.get?_push_of_some _ q) (Nat.le_refl _) ⟨_, e1⟩
  refine I1.laid (a := s.heap.objs.size + 1) (o := .ins C s.heap.objs.size []) (t' := s.toks) (fun b u q => Heap.get?_push_of_some _ q) (Nat.le_of_eq (Heap.size_push _ _)) ?_
  have ne : s.heap.objs.size ≠ s.heap.objs.size + 1 := Nat.ne_of_lt (Nat.lt_succ_self _)
  refine ⟨by rw [upd_ne ne, upd_same], Nat.zero_le _, ne, e2, fun _ => none, (Heap.Ns1.of_empty e3).at fun o q => Heap.get?_push_of_some _ q, fun _ => True.intro, fun y hy => absurd rfl hy⟩

end

/-! ### readings and rules -/
/-- e.f, an attribute of the instance -/
def tFld (K : PySem.W.Frag) (ta : TE) (f : Str) : TE := fun σ H Q => ta σ H fun x H1 => ∃ a C dx fs v, x = .ref a ∧ H1 a = some (.ins C dx fs) ∧ Cls K C ∧ NoAttr K C f ∧ fs.lookup f = some v ∧ Q v H1
/-- e.f, a constant of the class -/
def tCon (K : PySem.W.Frag) (ta : TE) (f : Str) : TE := fun σ H Q => ta σ H fun x H1 => ∃ a C dx fs v u, x = .ref a ∧ H1 a = some (.ins C dx fs) ∧ Cls K C ∧ Con K C f v u ∧ fs.lookup f = none ∧ Q v H1
/-- e.f = value -/
def sFld (K : PySem.W.Frag) (ta tv : TE) (f : Str) : TS := fun D σ H => tv σ H fun y H1 => ta σ H1 fun x H2 => ∃ a C dx fs, x = .ref a ∧ H2 a = some (.ins C dx fs) ∧ Cls K C ∧ NoAttr K C f ∧ fs.length < 1000 ∧
  D.nx σ (upd H2 a (.ins C dx (putF f y fs)))
/-- an augmented operator on two values -/
def InOp (X : Cx) (op : Operator) (rd : V → V → Hp → VK → Prop) : Prop :=
  ∀ (pins : List (Addr × Obj)) (s : Shared) (σ : St) (H : Hp) (x y : V) (u v : Value) (Q : VK), Inv X pins σ H s → RelV x u → RelV y v → rd x y H Q → wpAny (model X.prog X.w) X.A (inplaceOp op u v) (EP X pins σ Q) X.xe s
/-- e.f op= value -/
def sFldAug (K : PySem.W.Frag) (ta tv : TE) (rd : V → V → Hp → VK → Prop) (f : Str) : TS := fun D σ H => ta σ H fun x H1 => ∃ a C dx fs v, x = .ref a ∧ H1 a = some (.ins C dx fs) ∧ Cls K C ∧ NoAttr K C f ∧ fs.lookup f = some v ∧
  tv σ H1 fun y H2 => rd v y H2 fun z H3 => ∃ dx' fs', H3 a = some (.ins C dx' fs') ∧ fs'.length < 1000 ∧ D.nx σ (upd H3 a (.ins C dx' (putF f z fs')))

section
variable {X : Cx} {o e value : Expr} {f : Str} {pos pos' tpos : Pos} {ta tv : TE}
def rAdd : V → V → Hp → VK → Prop := fun x y H Q => ∃ i j, x = .int i ∧ y = .int j ∧ Q (.int (i + j)) H
def rSub : V → V → Hp → VK → Prop := fun x y H Q => ∃ i j, x = .int i ∧ y = .int j ∧ Q (.int (i - j)) H
theorem in_add : InOp X .Add rAdd := by
  rintro pins s σ H x y u v Q I rx ry ⟨i, j, rfl, rfl, q⟩
  obtain ⟨t, rfl⟩ := (show ∃ t, u = Value.int i t from rx)
  obtain ⟨t', rfl⟩ := (show ∃ t', v = Value.int j t' from ry)
  exact PyProof.Rows.iadd_int ⟨.int (i + j), H, I.tok _, ⟨_, rfl⟩, q⟩
theorem in_sub : InOp X .Sub rSub := by
  rintro pins s σ H x y u v Q I rx ry ⟨i, j, rfl, rfl, q⟩
  obtain ⟨t, rfl⟩ := (show ∃ t, u = Value.int i t from rx)
  obtain ⟨t', rfl⟩ := (show ∃ t', v = Value.int j t' from ry)
  exact PyProof.Rows.isub_int ⟨.int (i - j), H, I.tok _, ⟨_, rfl⟩, q⟩

end

/-! ### isinstance -/
section
variable {X : Cx} {pins : List (Addr × Obj)} {σ : St} {H : Hp} {s : Shared} {A : Around} {E : Value → Shared → Prop} {Q : Value → Shared → Prop} {c : Value} {b : Bool}
/-- the type of a value, as the fragment's deciders take it; for an instance its class -/
inductive TyOf (K : PySem.W.Frag) (H : Hp) : V → Value → Prop where
  | non : TyOf K H .non (.type "NoneType")
  | bl (x : Bool) : TyOf K H (.bl x) (.type "bool")
  | int (i : Int) : TyOf K H (.int i) (.type "int")
  | str (x : Str) : TyOf K H (.str x) (.type "str")
  | flt (x : UInt64) : TyOf K H (.flt x) (.type "float")
  | lst {a : Addr} {xs : List V} (e : H a = some (.lst xs)) : TyOf K H (.ref a) (.type "list")
  | frz {a : Addr} {o : Obj} {xs : List V} (e : H a = some (.frz o (.lst xs))) : TyOf K H (.ref a) (.type "list")
  | tup {a : Addr} {xs : List V} (e : H a = some (.tup xs)) : TyOf K H (.ref a) (.type "tuple")
  | dK {a : Addr} {kvs : List (Key × V)} (e : H a = some (.dK kvs)) : TyOf K H (.ref a) (.type "dict")
  | dT {a : Addr} {kvs : List (List Key × V)} (e : H a = some (.dT kvs)) : TyOf K H (.ref a) (.type "dict")
  | ins {a C dx : Addr} {fs : List (Str × V)} (e : H a = some (.ins C dx fs)) (cl : Cls K C) (ha : PySem.W.findIn K (.ref C) "__class__" = some (some (.builtin "object.__class__")))
      (hn : PySem.W.specialIn K (.builtin "object.__class__") "__get__" = some (some (.builtin "getset_descriptor.__get__"))) (htk : PySem.W.takesIn K (.builtin "object.__class__") = some true)
      (hm : PySem.W.mroIn K C (.type "object") = some true) : TyOf K H (.ref a) (.ref C)
end
end L2

namespace L2
open PySem PySem.Spec PyProof.Rows

/-! ### room -/
structure Room (k : Nat) (A : Around) : Prop where
  hd : A.handled = none
  dp : A.depth + 3 * k + 5 < recursionLimit
  un : A.units + 16 * k + 200 < cLine
theorem Room.mono {j k : Nat} {A : Around} (r : Room k A) (h : j ≤ k) : Room j A := ⟨r.hd, by have := r.dp; omega, by have := r.un; omega⟩
theorem Room.deeper {k : Nat} {A : Around} (r : Room (k + 1) A) (env : Env) : Room k (A.deeper env) :=
  ⟨r.hd, by have := r.dp; show A.depth + 1 + 3 * k + 5 < _; omega, by have := r.un; show A.units + 3 + 16 * k + 200 < _; omega⟩
theorem Room.in1 {k : Nat} {A : Around} (r : Room (k + 1) A) : Room k A.in1 :=
  ⟨r.hd, by have := r.dp; show A.depth + 3 * k + 5 < _; omega, by have := r.un; show A.units + 1 + 16 * k + 200 < _; omega⟩
theorem make_depth {A : Around} {C : Addr} {us : List Value} {kw : List (Str × Value)} : (A.under (.builtin "type.__call__" ⟨.ref C :: us, kw⟩)).depth = A.depth + 1 := by
  first | rfl | simp [Around.under, Code.weight, Code.isCreation, Code.isGuard, Code.isCaller, Code.frames, Code.isFrame, guardIds]
theorem make_units {A : Around} {C : Addr} {us : List Value} {kw : List (Str × Value)} : (A.under (.builtin "type.__call__" ⟨.ref C :: us, kw⟩)).units = A.units + 1 := by
  first | rfl | simp [Around.under, Code.cUnits, Code.frames, Code.isFrame]
theorem Room.make {k : Nat} {A : Around} (r : Room (k + 1) A) (C : Addr) (us : List Value) (kw : List (Str × Value)) : Room k (A.under (.builtin "type.__call__" ⟨.ref C :: us, kw⟩)) :=
  ⟨r.hd, by have := r.dp; rw [make_depth]; omega, by have := r.un; rw [make_units]; omega⟩
theorem Room.depth {k : Nat} {A : Around} (r : Room k A) : A.depth < recursionLimit := by have := r.dp; omega
theorem Room.units {k : Nat} {A : Around} (r : Room k A) : A.units + 64 < cLine := by have := r.un; omega

/-! ### argument lists and displays -/
def tNil : TA := fun _ H Q => Q [] H
def tCons (ta : TE) (tr : TA) : TA := fun σ H Q => ta σ H fun x H1 => tr σ H1 fun xs H2 => Q (x :: xs) H2
section
variable {X : Cx} {e : Expr} {es : List Expr} {te : TE} {t : TA} {pos : Pos}
theorem pa_nil : PA X [] tNil := fun _ _ _ _ H Q I h => Calls.spliced_nil ⟨[], H, I, .nil, h⟩
theorem pa_cons (ha : PE X e te) (hr : PA X es t) (hs : starEach (e :: es) X.env = (false, eval e X.env) :: starEach es X.env := by rfl) : PA X (e :: es) (tCons te t) := by
  intro pos pins s σ H Q I h
  rw [hs]
  show wpAny _ _ (spliced ((false, eval e X.env) :: backTo pos (starEach es X.env))) _ _ s
  refine Calls.spliced_cons (thn (ha pins s σ H _ I h) fun u s1 ⟨x, H1, I1, r1, q1⟩ => ?_)
  exact thn (hr pos pins s1 σ H1 _ I1 q1) fun us s2 ⟨xs, H2, I2, r2, q2⟩ => ⟨x :: xs, H2, I2, .cons r1 r2, q2⟩

/-- a tuple, a list of written items -/
def tTup (t : TA) : TE := fun σ H Q => t σ H fun xs H1 => xs.length ≤ sizeLine ∧ ∀ p, H1 p = none → Q (.ref p) (upd H1 p (.tup xs))
def tLst (t : TA) : TE := fun σ H Q => t σ H fun xs H1 => xs.length ≤ sizeLine ∧ ∀ p, H1 p = none → Q (.ref p) (upd H1 p (.lst xs))
theorem pe_tup {x1} (h : PA X es t) : PE X (.Tuple es x1 pos) (tTup t) := by
  intro pins s σ H Q I hq
  refine wpAny_Tuple_spliced (thn (h pos pins s σ H _ I hq) fun us s1 ⟨xs, H1, I1, r, z, q⟩ => ⟨by rw [← r.length]; exact z, ?_⟩)
  have hf : H1 s1.heap.objs.size = none := I1.hok.fresh (Nat.le_refl _)
  refine ⟨.ref s1.heap.objs.size, upd H1 s1.heap.objs.size (.tup xs), I1.laid (t' := s1.toks) (fun b u e => Heap.get?_push_of_some _ e) (Nat.le_refl _) ?_, rfl, q _ hf⟩
  exact ⟨z, us, r, ⟨_, Heap.get?_push_size _ rfl, rfl, _, rfl⟩⟩
theorem pe_lst (h : PA X es t) : PE X (.List es pos) (tLst t) := by
  intro pins s σ H Q I hq
  refine wpAny_List_spliced (thn (h pos pins s σ H _ I hq) fun us s1 ⟨xs, H1, I1, r, z, q⟩ => ⟨by rw [← r.length]; exact z, ?_⟩)
  have hf : H1 s1.heap.objs.size = none := I1.hok.fresh (Nat.le_refl _)
  refine ⟨.ref s1.heap.objs.size, upd H1 s1.heap.objs.size (.lst xs), I1.laid (t' := s1.toks) (fun b u e => Heap.get?_push_of_some _ e) (Nat.le_refl _) ?_, rfl, q _ hf⟩
  exact ⟨z, us, 0, r, Heap.get?_push_size _ rfl⟩
end

/-! ### what a def promises -/
/-- a def's promise: the bound arguments in the parameters' order, the heap, the wanted end, the wanted exception -/
abbrev Sp := List V → Hp → VK → XK → Prop
/-- how an exception lies behind a call (file 08 gives it): the callers' frames, abstract heap and state ahead of the call, the wish, the exception, the state -/
abbrev CXT := List Env → Hp → Shared → XK → Value → Shared → Prop

/-- the state at a call -/
structure Env0 (P : Program) (w : World) (K : PySem.W.Frag) (mg : Str → Option Value) (base : Heap) (A : Around) (outer : List Env) (s : Shared) (H : Hp) : Prop where
  frames : A.frames = some outer
  mod : Mod K mg base
  bs : ∀ b o, base.get? b = some o → s.heap.get? b = some o ∧ H b = none
  bsz : base.objs.size ≤ s.heap.objs.size
  funs : s.heap.FunFrames base outer
  frf : ∀ b ∈ frs outer, H b = none
  hok : HOk P w H s.heap
  bare : AllBare s.gens
/-- a call's end -/
def CE (outer : List Env) (P : Program) (w : World) (H : Hp) (s : Shared) (Q : VK) (u : Value) (s' : Shared) : Prop :=
  ∃ v H', s'.os = s.os ∧ AllBare s'.gens ∧ Un (frs outer) [] H H' s.heap s'.heap ∧ HOk P w H' s'.heap ∧ RelV v u ∧ Q v H'
def CR (CX : CXT) (outer : List Env) (P : Program) (w : World) (H : Hp) (s : Shared) (Q : VK) (E : XK) (r : Result) (s' : Shared) : Prop :=
  match r with
  | .ok (.ret u) => CE outer P w H s Q u s'
  | .ok _ => False
  | .error e => CX outer H s E e s'
structure FnOk (P : Program) (w : World) (K : PySem.W.Frag) (mg : Str → Option Value) (base : Heap) (CX : CXT) (k : Nat) (f : Addr) (fd : FuncData) (ps : List Str) (sp : Sp) : Prop where
  len : ∀ vs H Q E, sp vs H Q E → vs.length = ps.length
  run : ∀ (A : Around) (outer : List Env) (s : Shared) (H : Hp) (args : Args) (us : List Value) (vs : List V) (Q : VK) (E : XK), Room k A → Env0 P w K mg base A outer s H → BindsTo s fd args (ps.zip us) → Vals vs us → sp vs H Q E →
    codeAny (model P w) A (.call (.ref f) args) (CR CX outer P w H s Q E) s
theorem FnOk.mono {P : Program} {w : World} {K : PySem.W.Frag} {mg : Str → Option Value} {base : Heap} {CX : CXT} {j k : Nat} {f : Addr} {fd : FuncData} {ps : List Str} {sp : Sp} (F : FnOk P w K mg base CX j f fd ps sp) (h : j ≤ k) :
    FnOk P w K mg base CX k f fd ps sp := ⟨F.len, fun A outer s H args us vs Q E hr => F.run A outer s H args us vs Q E (hr.mono h)⟩
/-- a weaker promise -/
theorem FnOk.imp {P : Program} {w : World} {K : PySem.W.Frag} {mg : Str → Option Value} {base : Heap} {CX : CXT} {k : Nat} {f : Addr} {fd : FuncData} {ps : List Str} {sp sp' : Sp} (F : FnOk P w K mg base CX k f fd ps sp)
    (h : ∀ vs H Q E, sp' vs H Q E → sp vs H Q E) : FnOk P w K mg base CX k f fd ps sp' :=
  ⟨fun vs H Q E q => F.len vs H Q E (h _ _ _ _ q), fun A outer s H args us vs Q E hr he hb hv hs => F.run A outer s H args us vs Q E hr he hb hv (h _ _ _ _ hs)⟩

theorem Env0.make {P : Program} {w : World} {K : PySem.W.Frag} {mg : Str → Option Value} {base : Heap} {A : Around} {outer : List Env} {s : Shared} {H : Hp} (e : Env0 P w K mg base A outer s H) (C : Addr) (us : List Value) (kw : List (Str × Value)) :
    Env0 P w K mg base (A.under (.builtin "type.__call__" ⟨.ref C :: us, kw⟩)) outer s H := ⟨by first | exact e.frames | (simpa [Around.under, Code.envs, Code.isFrame, pushEnvs] using e.frames), e.mod, e.bs, e.bsz, e.funs, e.frf, e.hok, e.bare⟩
theorem Env0.in1 {P : Program} {w : World} {K : PySem.W.Frag} {mg : Str → Option Value} {base : Heap} {A : Around} {outer : List Env} {s : Shared} {H : Hp} (e : Env0 P w K mg base A outer s H) :
    Env0 P w K mg base A.in1 outer s H := ⟨e.frames, e.mod, e.bs, e.bsz, e.funs, e.frf, e.hok, e.bare⟩

section
variable {X : Cx} {pins : List (Addr × Obj)} {σ : St} {H : Hp} {s s' : Shared}
/-- from a body: what a callee wants -/
theorem Inv.env0 (I : Inv X pins σ H s) : Env0 X.prog X.w X.K X.mg X.base X.A X.stack s H :=
  ⟨I.ok.frames, I.ok.mod, I.bs, Nat.le_trans I.ok.bsz I.sz, I.stack, I.stkFree, I.hok, I.bare⟩
/-- behind a call -/
theorem Inv.after {Q : VK} {u : Value} (I : Inv X pins σ H s) (h : CE X.stack X.prog X.w H s Q u s') : EP X pins σ Q u s' := by
  obtain ⟨v, H', os, bare, un, hok, r, q⟩ := h
  obtain ⟨hh, g, d, t, os'⟩ := s'
  obtain rfl : os' = s.os := os
  exact ⟨v, H', I.call (h' := hh) (g' := g) (d' := d) (t' := t) (ch := []) un hok bare (fun b z => absurd z (by simp)), r, q⟩
end

/-! ### calls -/
/-- f(..): the written arguments, then the defaults dvs; E: what is wanted of an exception -/
def tCall (sp : Sp) (dvs : List V) (E : XK) (t : TA) : TE := fun σ H Q => t σ H fun vs H1 => sp (vs ++ dvs) H1 Q E
/-- o.m(..) of an instance of the class at C -/
def tMeth (C : Addr) (m : Str) (sp : Sp) (dvs : List V) (E : XK) (ta : TE) (t : TA) : TE := fun σ H Q => ta σ H fun x H1 => ∃ a dx fs, x = .ref a ∧ H1 a = some (.ins C dx fs) ∧ fs.lookup m = none ∧
  t σ H1 fun vs H2 => sp (x :: (vs ++ dvs)) H2 Q E
/-- C(..): a new instance and its dict, then __init__ -/
def tMake (C : Addr) (sp : Sp) (dvs : List V) (E : XK) (t : TA) : TE := fun σ H Q => t σ H fun vs H1 => ∀ x dx, H1 x = none → H1 dx = none → dx ≠ x →
  sp (.ref x :: (vs ++ dvs)) (upd (upd H1 dx (.own x)) x (.ins C dx [])) (fun v H2 => v = .non ∧ Q (.ref x) H2) E

/-- how the parameters are bound: us the positional arguments, kw the keywords' values by name, ds the defaults that fill up -/
def Binds (K : PySem.W.Frag) (fd : FuncData) (ps : List Str) (ds : List Value) : Prop :=
  ∀ (s : Shared) (us : List Value), K.In s.heap → (us ++ ds).length = ps.length → BindsTo s fd ⟨us, []⟩ (ps.zip (us ++ ds))
/-- every parameter is given -/
theorem Binds.all {K : PySem.W.Frag} {fd : FuncData} {ps : List Str} (h : ∀ us : List Value, us.length = ps.length → bindArgs fd ⟨us, []⟩ = pure (ps.zip us)) : Binds K fd ps [] := fun s us _ hl => by
  rw [List.append_nil] at hl ⊢
  exact .of_eq (h us hl)

/-- an exception of a callee reaches what this body wants of exceptions -/
def Passes (CX : CXT) (X : Cx) (E : XK) : Prop := ∀ (pins : List (Addr × Obj)) (σ : St) (H : Hp) (s : Shared) (e : Value) (s' : Shared), Inv X pins σ H s → CX X.stack H s E e s' → X.xe e s'

section
variable {X : Cx} {CX : CXT} {k : Nat} {f C : Addr} {fd : FuncData} {ps : List Str} {sp : Sp} {dvs : List V} {ds : List Value} {E : XK} {x m : Str} {p pos apos : Pos} {e o : Expr} {es : List Expr} {ta : TE} {t : TA}

/-- the callee runs -/
theorem run_fn {pins : List (Addr × Obj)} {σ : St} {H : Hp} {s : Shared} {Q : VK} {us : List Value} {vs : List V} (F : FnOk X.prog X.w X.K X.mg X.base CX k f fd ps sp) (hr : Room k X.A) (hb : Binds X.K fd ps ds) (hd : Vals dvs ds) (hx : Passes CX X E)
    (I : Inv X pins σ H s) (r : Vals vs us) (h : sp (vs ++ dvs) H Q E) : wpAny (model X.prog X.w) X.A (call (.ref f) us) (EP X pins σ Q) X.xe s := by
  have r2 : Vals (vs ++ dvs) (us ++ ds) := r.append hd
  have hl : (us ++ ds).length = ps.length := by rw [← r2.length]; exact F.len _ _ _ _ h
  refine wpAny_call (codeAny_mono (F.run X.A X.stack s H ⟨us, []⟩ (us ++ ds) (vs ++ dvs) Q E hr I.env0 (hb s us I.kIn hl) r2 h) fun r s' hq => ?_)
  cases r with
  | error e => exact hx pins σ H s e s' I hq
  | ok fl =>
    cases fl with
    | ret u => exact I.after hq
    | next => exact False.elim hq
    | brk => exact False.elim hq
    | cont => exact False.elim hq

theorem pe_call (F : FnOk X.prog X.w X.K X.mg X.base CX k f fd ps sp) (hr : Room k X.A) (hg : Gl X x) (hm : X.mg x = some (.ref f)) (hk : PySem.W.keepIn X.K (.ref f) = true) (hb : Binds X.K fd ps ds) (hd : Vals dvs ds) (hx : Passes CX X E)
    (ha : PA X (e :: es) t) (hdb : (x == ("__debug__" : Str)) = false := by decide) (he : starEach (e :: es) X.env = (false, eval e X.env) :: starEach es X.env := by rfl) (hpl : (backTo pos (starEach es X.env)).any (·.1) = false := by rfl) :
    PE X (.Call (.Name x p) (e :: es) [] pos) (tCall sp dvs E t) := by
  intro pins s σ H Q I h
  refine wpAny_Call_Name_kw (ld_glob I hg hm ?_ hdb)
  refine PySem.W.callWith_K (h₀ := X.base) I.ok.mod.kin hk (thn (ha pos pins s σ H _ I h) fun us s1 ⟨vs, H1, I1, r, q⟩ => ⟨I1.kIn, ?_⟩) he hpl
  exact run_fn F hr hb hd hx I1 r q


/-- what a class must have to be made -/
structure Mk (K : PySem.W.Frag) (C f : Addr) : Prop where
  makes : PySem.W.makesIn K C = true
  init : PySem.W.findIn K (.ref C) "__init__" = some (some (.ref f))
  fn : PySem.W.isFn K (.ref f) = true
  kp : PySem.W.keepIn K (.ref C) = true

end

/-! ### keywords -/
/-- the values of the keywords, from the left -/
def PK (X : Cx) (kws : List Keyword) (t : TA) : Prop :=
  ∀ (pos : Pos) (pins : List (Addr × Obj)) (s : Shared) (σ : St) (H : Hp) (Q : List V → Hp → Prop), Inv X pins σ H s → t σ H Q → wpAny (model X.prog X.w) X.A (evalAll ((backToKw pos (keywordEach kws X.env)).map (·.2))) (AP X pins σ Q) X.xe s
section
variable {X : Cx} {CX : CXT} {k : Nat} {f C : Addr} {fd : FuncData} {ps ks : List Str} {sp : Sp} {E : XK} {x m : Str} {p pos apos kpos : Pos} {e o : Expr} {es : List Expr} {kws : List Keyword} {te ta : TE} {t tk : TA} {nm : Option Str}

/-- how a call with keywords binds: g puts the positional values us and the keywords' values ws (names ks) in the parameters' order, defaults among them -/
structure KBinds (K : PySem.W.Frag) (fd : FuncData) (ps ks : List Str) (g : List Value → List Value → List Value) (gV : List V → List V → List V) : Prop where
  to : ∀ (s : Shared) (us ws : List Value), K.In s.heap → (g us ws).length = ps.length → BindsTo s fd ⟨us, ks.zip ws⟩ (ps.zip (g us ws))
  rel : ∀ {vs : List V} {us : List Value} {zs : List V} {ws : List Value}, Vals vs us → Vals zs ws → Vals (gV vs zs) (g us ws)
def tCallK (sp : Sp) (gV : List V → List V → List V) (E : XK) (t tk : TA) : TE := fun σ H Q => t σ H fun vs H1 => tk σ H1 fun zs H2 => sp (gV vs zs) H2 Q E
variable {g : List Value → List Value → List Value} {gV : List V → List V → List V}
end

/-! ### a def's body keeps its promise -/
/-- names: the parameters first -/
structure FnScope (N P : List Str) (sc : Scope) : Prop where
  kind : sc.kind = .function
  co : sc.isCoroutine = false
  gen : sc.isGenerator = false
  nd : N.Nodup
  pre : N.take P.length = P
  par : ∀ x ∈ P, sc.names.lookup x = some .local ∨ sc.names.lookup x = some .cell
  nofree : ∀ y ∈ sc.names, y.2 ≠ .free

theorem bindL_out {kindOf : Str → Option NameKind} {x : Str} : ∀ {binds : List (Str × Value)} {m : Str → Option Value}, (∀ v, (x, v) ∉ binds) → bindL kindOf binds m x = m x
  | [], _, _ => rfl
  | (n, v) :: r, m, h => by
    unfold bindL
    rw [bindL_out fun w hw => h w (List.mem_cons_of_mem _ hw)]
    split
    · have : x ≠ n := by rintro rfl; exact h v List.mem_cons_self
      simp [this]
    · rfl
theorem bindC_out {kindOf : Str → Option NameKind} {x : Str} : ∀ {binds : List (Str × Value)} {m : Str → Option Value}, (∀ v, (x, v) ∉ binds) → bindC kindOf binds m x = m x
  | [], _, _ => rfl
  | (n, v) :: r, m, h => by
    unfold bindC
    rw [bindC_out fun w hw => h w (List.mem_cons_of_mem _ hw)]
    split
    · rfl
    · have : x ≠ n := by rintro rfl; exact h v List.mem_cons_self
      simp [this]
theorem bindL_get {kindOf : Str → Option NameKind} {x : Str} {v : Value} : ∀ {P : List Str} {vs : List Value} {i : Nat} {m : Str → Option Value}, P.Nodup → P[i]? = some x → vs[i]? = some v → kindOf x = some .local →
    bindL kindOf (P.zip vs) m x = some v
  | [], _, _, _, _, h, _, _ => by simp at h
  | _ :: _, [], _, _, _, _, h, _ => by simp at h
  | p :: P, w :: vs, 0, m, nd, h1, h2, hk => by
    simp at h1 h2; subst h1; subst h2
    show bindL kindOf ((p, w) :: P.zip vs) m p = _
    unfold bindL
    rw [bindL_out fun v hv => (List.nodup_cons.mp nd).1 (List.of_mem_zip hv).1, if_pos hk]
    simp
  | p :: P, w :: vs, i + 1, m, nd, h1, h2, hk => by
    show bindL kindOf ((p, w) :: P.zip vs) m x = _
    unfold bindL
    exact bindL_get (i := i) (List.nodup_cons.mp nd).2 (by simpa using h1) (by simpa using h2) hk
theorem bindC_get {kindOf : Str → Option NameKind} {x : Str} {v : Value} : ∀ {P : List Str} {vs : List Value} {i : Nat} {m : Str → Option Value}, P.Nodup → P[i]? = some x → vs[i]? = some v → kindOf x ≠ some .local →
    bindC kindOf (P.zip vs) m x = some v
  | [], _, _, _, _, h, _, _ => by simp at h
  | _ :: _, [], _, _, _, _, h, _ => by simp at h
  | p :: P, w :: vs, 0, m, nd, h1, h2, hk => by
    simp at h1 h2; subst h1; subst h2
    show bindC kindOf ((p, w) :: P.zip vs) m p = _
    unfold bindC
    rw [bindC_out fun v hv => (List.nodup_cons.mp nd).1 (List.of_mem_zip hv).1, if_neg hk]
    simp
  | p :: P, w :: vs, i + 1, m, nd, h1, h2, hk => by
    show bindC kindOf ((p, w) :: P.zip vs) m x = _
    unfold bindC
    exact bindC_get (i := i) (List.nodup_cons.mp nd).2 (by simpa using h1) (by simpa using h2) hk

/-- the names' values at the entry -/
def start (N : List Str) (vs : List V) : St := vs.map some ++ List.replicate (N.length - vs.length) none

/-- the context of a def's body, at its entry; an exception leaves the frame, then lies as CX says -/
def cxOf (CX : CXT) (P : Program) (w : World) (K : PySem.W.Frag) (mg : Str → Option Value) (base : Heap) (N : List Str) (qual : Str) (scope : Scope) (f : Addr) (cd : Value) (A : Around) (outer : List Env) (s : Shared) (H : Hp) (E : XK) : Cx where
  prog := P
  w := w
  K := K
  mg := mg
  base := base
  A := A.deeper (envOfC qual scope s.heap.objs.size f cd)
  N := N
  s₀ := s
  H₀ := H
  env := envOfC qual scope s.heap.objs.size f cd
  outer := outer
  stack := envOfC qual scope s.heap.objs.size f cd :: outer
  ex := []
  calm := true
  fn := fun _ => true
  pn := []
  xe := fun e s' => wpAny (model P w) (A.deeper (envOfC qual scope s.heap.objs.size f cd)) (leaving (envOfC qual scope s.heap.objs.size f cd) e) (fun _ s'' => CX outer H s E e s'') (fun e' s'' => CX outer H s E e' s'') s'

theorem cell_has {sc : Scope} {n : Nat} {x : Str} (h : sc.names.lookup x = some .cell) : ∃ c, (cellsFrom n sc.names []).lookup x = some c := by
  have q := PySem.W.cellsFrom_some sc.names n [] (.inl h)
  exact Option.isSome_iff_exists.mp q

theorem inv_start {CX : CXT} {P : Program} {w : World} {K : PySem.W.Frag} {mg : Str → Option Value} {base : Heap} {N ps : List Str} {qual : Str} {scope : Scope} {f : Addr} {cd : Value} {A : Around} {outer : List Env} {s s1 : Shared} {H : Hp} {E : XK} {us : List Value} {vs : List V}
    (S : FnScope N ps scope) (hd : A.handled = none) (e0 : Env0 P w K mg base A outer s H) (hl : vs.length = ps.length) (r : Vals vs us)
    (x : InCallC s s.heap.objs.size (bindL (envOfC qual scope s.heap.objs.size f cd).kindOf (ps.zip us) fun _ => none) (cellsFrom (s.heap.objs.size + 1) scope.names []) (bindC (envOfC qual scope s.heap.objs.size f cd).kindOf (ps.zip us) fun _ => none) s1) :
    Inv (cxOf CX P w K mg base N qual scope f cd A outer s H E) [] (start N vs) H s1 := by
  have hpl : ps.length ≤ N.length := by have := congrArg List.length S.pre; rw [List.length_take] at this; omega
  obtain ⟨h1, tk, rfl, hk⟩ := x.done
  have noA : ∀ b : Addr, b ∉ (cxOf CX P w K mg base N qual scope f cd A outer s H E).ex := fun b z => absurd (show b ∈ ([] : List Addr) from z) (by simp)
  refine ⟨⟨e0.mod, S.kind, rfl, rfl, Nat.le_refl _, fun y z c h1 h2 => ?_, fun y hy => ?_, fun y c _ h => ?_, fun _ => hd, Around.frames_deeper e0.frames, .inr ⟨rfl, rfl⟩, fun b z => absurd z (noA b), e0.bs, e0.bsz, fun b _ _ => noA b, fun b z => absurd z (noA b), e0.funs, e0.frf⟩,
    rfl, e0.bare, Un.kept hk, ⟨_, x.toInCall.ns, fun i y v h1 h2 h3 => ?_⟩, fun y c h => ⟨_, x.cell y c h⟩, e0.hok.fresh (Nat.le_refl _), fun y c h => ?_, fun p hp => absurd (show p ∈ ([] : List (Addr × Obj)) from hp) (by simp), e0.hok.kept hk, ?_⟩
  · exact name_of_addr x.apart (PySem.mem_of_lookup h1) (PySem.mem_of_lookup h2)
  · have hy : scope.names.lookup y = some .cell ∨ scope.names.lookup y = some .free := hy
    rcases hy with hy | hy
    · exact cell_has hy
    · exact absurd rfl (S.nofree _ (PySem.mem_of_lookup hy))
  · exact Nat.le_of_lt (x.above y c (PySem.mem_of_lookup h))
  · have hi : i < vs.length := by
      unfold start at h2
      by_cases hi : i < vs.length
      · exact hi
      · rw [List.getElem?_append_right (by simpa using hi)] at h2
        rw [List.getElem?_replicate] at h2
        split at h2 <;> cases h2
    have ha : vs[i]? = some v := by
      unfold start at h2
      rw [List.getElem?_append_left (by simpa using hi), List.getElem?_map] at h2
      cases e : vs[i]? with
      | none => rw [e] at h2; cases h2
      | some a => rw [e] at h2; cases h2; rfl
    obtain ⟨u, hu, rv⟩ := r.get ha
    have hp : ps[i]? = some y := by
      rw [← S.pre, List.getElem?_take_of_lt (by omega)]; exact h1
    have ndP : ps.Nodup := by rw [← S.pre]; exact S.nd.sublist (List.take_sublist _ _)
    refine ⟨u, rv, ?_⟩
    rcases S.par y (List.mem_of_getElem? hp) with k | k
    · exact .inl ⟨k, bindL_get ndP hp hu k⟩
    · obtain ⟨c, e⟩ := cell_has (n := s.heap.objs.size + 1) k
      refine .inr ⟨.inl k, c, e, ?_⟩
      have q := x.cell y c e
      rw [bindC_get ndP hp hu (by show scope.names.lookup y ≠ _; rw [k]; decide)] at q
      exact q
  · exact e0.hok.fresh (Nat.le_of_lt (x.above y c (PySem.mem_of_lookup h)))
  · unfold start
    show _ = N.length
    rw [List.length_append, List.length_map, List.length_replicate]
    omega

/-- THE RULE: a def (or a method) of the text, by its body. The body's reading t is chosen for each entry; it is run at the parameters' values -/
theorem fn_of {CX : CXT} {P : Program} {w : World} {K : PySem.W.Frag} {mg : Str → Option Value} {base : Heap} {k : Nat} {f : Addr} {name qual : Str} {params : Arguments} {body : List Stmt} {scope : Scope} {dV kV doc pm cdv ct oc : Value} {an od : Option Addr}
    {osl : Array (Option Value)} {N ps : List Str} {sp : Sp} (lk : K.lookup f = some ⟨oc, od, .func (PySem.W.fnOf name qual params body scope dV kV doc pm an cdv ct), osl⟩) (hcd : PySem.W.codeIn K cdv qual = true) (S : FnScope N ps scope)
    (len : ∀ vs H Q E, sp vs H Q E → vs.length = ps.length)
    (hbody : ∀ (A : Around) (outer : List Env) (s : Shared) (H : Hp) (vs : List V) (Q : VK) (E : XK), Room k (A.deeper (envOfC qual scope s.heap.objs.size f cdv)) → sp vs H Q E →
      ∃ t, PSs (cxOf CX P w K mg base N qual scope f cdv A outer s H E) body t ∧ t { nx := fun _ H' => Q .non H', rt := Q } (start N vs) H) :
    FnOk P w K mg base CX (k + 1) f (PySem.W.fnOf name qual params body scope dV kV doc pm an cdv ct) ps sp := by
  refine ⟨len, fun A outer s H args us vs Q E hr e0 hb r hsp => ?_⟩
  have hl := len _ _ _ _ hsp
  have KX : K.In s.heap := e0.mod.kin.keeps fun b o e => (e0.bs b o e).1
  have lim : s.heap.NoLimit := e0.mod.nolimit.keeps fun b o e => (e0.bs b o e).1
  have hkind : ∀ y ∈ ps.zip us, scope.names.lookup y.1 = some .local ∨ (scope.names.lookup y.1 = some .cell ∧ ((cellsFrom (s.heap.objs.size + 1) scope.names []).lookup y.1).isSome = true) := fun ⟨n, v⟩ hy => by
    rcases S.par n (List.of_mem_zip hy).1 with q | q
    · exact .inl q
    · exact .inr ⟨q, PySem.W.cellsFrom_some _ _ _ (.inl q)⟩
  refine codeAny_call_function hr.depth (KX _ _ lk) rfl S.co S.gen rfl (PySem.W.codeRec_of KX hcd) (hb _ _ _ _ ?_)
  refine wpAny_newFunctionEnv_cells S.kind hkind fun env he s1 x => ?_
  subst he
  refine ⟨lim.keeps x.toInCall.keep, codeAny_func ?_⟩
  obtain ⟨t, ht, hq⟩ := hbody A outer s H vs Q E (hr.deeper _) hsp
  have I : Inv (cxOf CX P w K mg base N qual scope f cdv A outer s H E) [] (start N vs) H s1 := inv_start S hr.hd e0 hl r x
  refine wpAny_mono (ht [] s1 (start N vs) H _ I hq) (fun fl s' hs => ?_) fun e s' hs => hs
  have fin : ∀ {σ' : St} {H' : Hp} {v : V} {u : Value}, Inv (cxOf CX P w K mg base N qual scope f cdv A outer s H E) [] σ' H' s' → RelV v u → Q v H' → CE outer P w H s Q u s' :=
    fun {σ' H' v u} J rv q => ⟨v, H', J.os, J.bare, J.base, J.hok, rv, q⟩
  cases fl with
  | ret u =>
    obtain ⟨v, σ', H', J, rv, q⟩ := hs
    exact fin J rv q
  | next =>
    obtain ⟨σ', H', J, q⟩ := hs
    exact fin (v := V.non) (u := Value.none) J rfl q
  | brk =>
    obtain ⟨_, _, _, q⟩ := hs
    exact False.elim q
  | cont =>
    obtain ⟨_, _, _, q⟩ := hs
    exact False.elim q
end L2

namespace L2
open PySem PySem.Spec PyProof.Rows
section
variable {X : Cx} {x : Str} {p pos : Pos} {e : Expr} {es : List Expr} {t : TA} {id T : String} {r : List V → Hp → VK → Prop}

def tCB (r : List V → Hp → VK → Prop) (t : TA) : TE := fun σ H Q => t σ H fun vs H1 => r vs H1 Q
/-- f(e, ..), f a built-in function -/
theorem pe_callB (hc : CallR X (.builtin id) r) (hg : Gl X x) (hm : X.mg x = none) (hv : bootBuiltins x = some (.builtin id)) (ha : PA X (e :: es) t) (hn : x ≠ "__name__" := by decide) (hdb : (x == ("__debug__" : Str)) = false := by decide)
    (he : starEach (e :: es) X.env = (false, eval e X.env) :: starEach es X.env := by rfl) (hpl : (backTo pos (starEach es X.env)).any (·.1) = false := by rfl) : PE X (.Call (.Name x p) (e :: es) [] pos) (tCB r t) := by
  intro pins s σ H Q I h
  refine wpAny_Call_Name_kw (ld_blt I hg hm hv ?_ hn hdb)
  exact PyProof.Rows.callWith_builtin1 (thn (ha pos pins s σ H _ I h) fun us s1 ⟨vs, H1, I1, r1, q1⟩ => hc pins s1 σ H1 vs us Q I1 r1 q1) he hpl
/-- T(e, ..), T a built-in type -/
theorem pe_callTy (hc : CallR X (.type T) r) (hg : Gl X x) (hm : X.mg x = none) (hv : bootBuiltins x = some (.type T)) (ha : PA X (e :: es) t) (hn : x ≠ "__name__" := by decide) (hdb : (x == ("__debug__" : Str)) = false := by decide)
    (he : starEach (e :: es) X.env = (false, eval e X.env) :: starEach es X.env := by rfl) (hpl : (backTo pos (starEach es X.env)).any (·.1) = false := by rfl) : PE X (.Call (.Name x p) (e :: es) [] pos) (tCB r t) := by
  intro pins s σ H Q I h
  refine wpAny_Call_Name_kw (ld_blt I hg hm hv ?_ hn hdb)
  exact PyProof.Rows.callWith_type1 (thn (ha pos pins s σ H _ I h) fun us s1 ⟨vs, H1, I1, r1, q1⟩ => hc pins s1 σ H1 vs us Q I1 r1 q1) he hpl
end
end L2

namespace HT
open PySem PyProof.Rows

/-- t < u of tuples of ints -/
def lexLt : List Int → List Int → Bool
  | [], [] => false
  | [], _ :: _ => true
  | _ :: _, [] => false
  | x :: xs, y :: ys => if x = y then lexLt xs ys else decide (x < y)


section
open PySem.SeqAt
open PySem.AutoSeq1 (wpAny_loadPart')
open PySem.MeetsSeq PySem.MeetsSeq2 PySem.MeetsSeq3

end

section
variable {prog : Program} {w : World} {A : Around} {E : Value → Shared → Prop} {s : Shared}



/-! ### t[a:b], not the whole -/
/-- a slice's bound as a place among n (d where it is left out) -/
def sIx (n d : Nat) : Option Int → Nat
  | none => d
  | some v => if v < 0 then (v + (n : Int)).toNat else min v.toNat n
theorem sIx_none (n d : Nat) : sIx n d none = d := rfl
theorem sIx_nat (n d k : Nat) : sIx n d (some (k : Int)) = min k n := by
  show (if (k : Int) < 0 then ((k : Int) + (n : Int)).toNat else min (k : Int).toNat n) = min k n
  rw [if_neg (by omega), Int.toNat_natCast]
theorem sIx_le (n d : Nat) (hd : d ≤ n) (o : Option Int) : sIx n d o ≤ n := by
  cases o with
  | none => exact hd
  | some v =>
    show (if v < 0 then (v + (n : Int)).toNat else min v.toNat n) ≤ n
    by_cases hv : v < 0
    · rw [if_pos hv]; omega
    · rw [if_neg hv]; exact Nat.min_le_right _ _

end
end HT

namespace L2
open PySem PySem.Spec PyProof.Rows

/-! ### the parts of a slice -/
abbrev TO := St → Hp → (Option Int → Hp → Prop) → Prop
/-- a slice's part (left out, or an int) -/
def PO (X : Cx) (e : Option Expr) (t : TO) : Prop :=
  ∀ (pins : List (Addr × Obj)) (s : Shared) (σ : St) (H : Hp) (Q : Option Int → Hp → Prop), Inv X pins σ H s → t σ H Q →
    wpAny (model X.prog X.w) X.A (evalPart e X.env) (fun u s' => ∃ o H', Inv X pins σ H' s' ∧ IsPart u o ∧ Q o H') X.xe s
def tNoPart : TO := fun _ H Q => Q none H
def tPart (t : TE) : TO := fun σ H Q => t σ H fun x H1 => ∃ i, x = .int i ∧ Q (some i) H1


section
variable {X : Cx} {e : Expr} {te : TE} {lo hi : Option Expr} {tl th : TO} {pos p2 : Pos}

theorem po_none : PO X none tNoPart := by
  intro pins s σ H Q I h
  rw [evalPart_none]
  exact wpAny_pure ⟨none, H, I, .none, h⟩
theorem po_some (h : PE X e te) : PO X (some e) (tPart te) := by
  intro pins s σ H Q I hw
  rw [evalPart_some]
  refine thn (h pins s σ H _ I hw) fun u s1 ⟨x, H1, I1, r1, q1⟩ => ?_
  obtain ⟨i, rfl, q⟩ := q1
  obtain ⟨t, rfl⟩ := r1
  exact ⟨some i, H1, I1, .int i t, q⟩

/-- what a slice of a value is, by values: the slice object stands at sl -/
def SlR (X : Cx) (r : V → Option Int → Option Int → Hp → VK → Prop) : Prop :=
  ∀ (pins : List (Addr × Obj)) (s : Shared) (σ : St) (H : Hp) (x : V) (v vl vu : Value) (lo hi : Option Int) (sl : Addr) (Q : VK), Inv X pins σ H s → RelV x v → s.heap.IsSliceOf sl vl vu .none → IsPart vl lo → IsPart vu hi → r x lo hi H Q →
    ∃ T id, typeLookup (.type T) "__getitem__" = pure (some (.builtin id)) ∧ s.TypeIs v T ∧ wpAny (model X.prog X.w) X.A (getItem v (.ref sl)) (EP X pins σ Q) X.xe s
theorem SlR.or {r r' : V → Option Int → Option Int → Hp → VK → Prop} (h : SlR X r) (h' : SlR X r') : SlR X (fun x lo hi H Q => r x lo hi H Q ∨ r' x lo hi H Q) := by
  intro pins s σ H x v vl vu lo hi sl Q I rx hs pl pu q
  rcases q with q | q
  · exact h pins s σ H x v vl vu lo hi sl Q I rx hs pl pu q
  · exact h' pins s σ H x v vl vu lo hi sl Q I rx hs pl pu q
def tSl (r : V → Option Int → Option Int → Hp → VK → Prop) (te : TE) (tl th : TO) : TE := fun σ H Q => te σ H fun x H1 => tl σ H1 fun l H2 => th σ H2 fun u H3 => r x l u H3 Q
/-- a[lo:hi], any a -/
theorem pe_slice {r : V → Option Int → Option Int → Hp → VK → Prop} (hr : SlR X r) (he : PE X e te) (hl : PO X lo tl) (hu : PO X hi th) : PE X (.Subscript e (.Slice lo hi none p2) pos) (tSl r te tl th) := by
  intro pins s σ H Q I h
  refine Subscript_ (thn (he pins s σ H _ I h) fun v s1 ⟨x, H1, I1, r1, q1⟩ => ?_)
  refine wpAny_Slice (thn (hl pins s1 σ H1 _ I1 q1) fun vl s2 ⟨l, H2, I2, pl, q2⟩ => thn (hu pins s2 σ H2 _ I2 q2) fun vu s3 ⟨u, H3, I3, pu, q3⟩ => ?_)
  rw [evalPart_none]
  refine wpAny_pure ?_
  have I4 : Inv X pins σ H3 { s3 with heap := s3.heap.push { cls := .type "slice", data := .fields #[vl, vu, .none] } } := I3.kept (t' := s3.toks) fun b ob q => Heap.get?_push_of_some _ q
  obtain ⟨T, id, hT, ht, hg⟩ := hr pins { s3 with heap := s3.heap.push { cls := .type "slice", data := .fields #[vl, vu, .none] } } σ H3 x v vl vu l u s3.heap.objs.size Q I4 r1 (Heap.IsSliceOf.new ..) pl pu q3
  show wpAny (model X.prog X.w) X.A (subscriptTail e (.Slice lo hi none p2) v (.ref s3.heap.objs.size)) (EP X pins σ Q) X.xe { s3 with heap := s3.heap.push { cls := .type "slice", data := .fields #[vl, vu, .none] } }
  exact tail_any (ops := [.ref s3.heap.objs.size, v]) ht hT hg (by with_unfolding_all rfl)

/-- the items of xs[lo:hi] -/
def cutV (xs : List V) (lo hi : Option Int) : List V := (xs.drop (HT.sIx xs.length 0 lo)).take (HT.sIx xs.length xs.length hi - HT.sIx xs.length 0 lo)
theorem cutV_length (xs : List V) (lo hi : Option Int) : (cutV xs lo hi).length ≤ xs.length := by
  unfold cutV
  rw [List.length_take, List.length_drop]
  omega
/-- t[lo:hi], not the whole of it (the whole would be t itself) -/
def rSlT (K : PySem.W.Frag) : V → Option Int → Option Int → Hp → VK → Prop := fun x lo hi H Q => ∃ a xs, x = .ref a ∧ SqT K H a xs ∧
  ¬ (HT.sIx xs.length 0 lo = 0 ∧ HT.sIx xs.length xs.length hi = xs.length) ∧ ∀ p, H p = none → Q (.ref p) (upd H p (.tup (cutV xs lo hi)))

/-! ### t < u, t + u -/
def rLtT (K : PySem.W.Frag) : R2 := fun x y H Q => ∃ a b ns ms, x = .ref a ∧ y = .ref b ∧ SqT K H a (ns.map V.int) ∧ SqT K H b (ms.map V.int) ∧ Q (.bl (HT.lexLt ns ms)) H
/-- t + u, t not empty: u empty gives t itself -/
def rCatT (K : PySem.W.Frag) : R2 := fun x y H Q => ∃ a b xs ys, x = .ref a ∧ y = .ref b ∧ SqT K H a xs ∧ SqT K H b ys ∧ xs ≠ [] ∧ xs.length + ys.length ≤ sizeLine ∧
  (ys = [] → Q (.ref a) H) ∧ (ys ≠ [] → ∀ p, H p = none → Q (.ref p) (upd H p (.tup (xs ++ ys))))
end
end L2

namespace L2
open PySem PySem.Spec PyProof.Rows

/-! ### places -/
/-- the place that an index of any sign means -/
def ixN (n : Nat) (i : Int) : Option Nat := if 0 ≤ i then (if i < n then some i.toNat else none) else if -(n : Int) ≤ i then some (i + n).toNat else none
def atI {α : Type} (xs : List α) (i : Int) : Option α := (ixN xs.length i).bind fun j => xs[j]?
theorem ixN_seq {n : Nat} {i : Int} {j : Nat} (h : ixN n i = some j) : seqIndex? i n = some j ∧ j < n ∧ -(n : Int) ≤ i ∧ i < n := by
  unfold ixN at h
  by_cases h0 : 0 ≤ i
  · rw [if_pos h0] at h
    by_cases h1 : i < n
    · rw [if_pos h1] at h
      have e : i.toNat = j := Option.some.inj h
      exact ⟨by rw [seqIndex_of h0 h1, e], by omega, by omega, h1⟩
    · rw [if_neg h1] at h; cases h
  · rw [if_neg h0] at h
    by_cases h1 : -(n : Int) ≤ i
    · rw [if_pos h1] at h
      have e : (i + n).toNat = j := Option.some.inj h
      exact ⟨by rw [seqIndex_neg (by omega) h1, e], by omega, h1, by omega⟩
    · rw [if_neg h1] at h; cases h
theorem atI_get {α : Type} {xs : List α} {i : Int} {v : α} (h : atI xs i = some v) : ∃ j, seqIndex? i xs.length = some j ∧ xs[j]? = some v ∧ j < xs.length ∧ -(xs.length : Int) ≤ i ∧ i < xs.length := by
  unfold atI at h
  cases e : ixN xs.length i with
  | none => rw [e] at h; cases h
  | some j =>
    rw [e] at h
    obtain ⟨h1, h2, h3, h4⟩ := ixN_seq e
    exact ⟨j, h1, h, h2, h3, h4⟩
theorem atI_nat {α : Type} {xs : List α} {j : Nat} {v : α} (h : xs[j]? = some v) : atI xs (j : Int) = some v := by
  have hj : j < xs.length := (List.getElem?_eq_some_iff.mp h).1
  have e : ixN xs.length (j : Int) = some j := by
    unfold ixN
    rw [if_pos (by omega), if_pos (by omega)]; simp
  unfold atI; rw [e]; exact h

/-! ### what may be subscripted -/
/-- what stands as an index of a plain subscript -/
def PlainIx (b : Expr) : Prop := ∀ o i, subscripted b false o i = operate [o, i] (getItem o i)
/-- a subscript by values -/
def IxR (X : Cx) (r : R2) : Prop :=
  ∀ (value slice : Expr) (pins : List (Addr × Obj)) (s : Shared) (σ : St) (H : Hp) (x y : V) (v u : Value) (Q : VK), Inv X pins σ H s → RelV x v → RelV y u → r x y H Q →
    subscripted slice false v u = operate [v, u] (getItem v u) → wpAny (model X.prog X.w) X.A (subscriptTail value slice v u) (EP X pins σ Q) X.xe s
/-- a call of a builtin's method by values: the receiver, the arguments -/
def MtR (X : Cx) (id : String) (r : V → List V → Hp → VK → Prop) : Prop :=
  ∀ (pins : List (Addr × Obj)) (s : Shared) (σ : St) (H : Hp) (x : V) (xs : List V) (v : Value) (us : List Value) (Q : VK), Inv X pins σ H s → RelV x v → Vals xs us → r x xs H Q →
    wpAny (model X.prog X.w) X.A (call (.builtin id) (v :: us)) (EP X pins σ Q) X.xe s
section
variable {X : Cx} {a b : Expr} {ta tb : TE} {pos : Pos}
theorem IxR.or {r r' : R2} (h : IxR X r) (h' : IxR X r') : IxR X (fun x y H Q => r x y H Q ∨ r' x y H Q) := by
  intro value slice pins s σ H x y v u Q I rx ry q hs
  rcases q with q | q
  · exact h value slice pins s σ H x y v u Q I rx ry q hs
  · exact h' value slice pins s σ H x y v u Q I rx ry q hs
theorem MtR.or {id : String} {r r' : V → List V → Hp → VK → Prop} (h : MtR X id r) (h' : MtR X id r') : MtR X id (fun x xs H Q => r x xs H Q ∨ r' x xs H Q) := by
  intro pins s σ H x xs v us Q I rx rs q
  rcases q with q | q
  · exact h pins s σ H x xs v us Q I rx rs q
  · exact h' pins s σ H x xs v us Q I rx rs q
/-- a[b] -/
theorem pe_ix {r : R2} (hr : IxR X r) (ha : PE X a ta) (hb : PE X b tb) (hs : PlainIx b) : PE X (.Subscript a b pos) (tOp r ta tb) := by
  intro pins s σ H Q I h
  exact Subscript_ (binT ha hb I h fun v u s2 x y H2 I2 rx ry q => hr a b pins s2 σ H2 x y v u Q I2 rx ry q (hs _ _))

def rIxL (K : PySem.W.Frag) : R2 := fun x y H Q => ∃ p xs i v, x = .ref p ∧ y = .int i ∧ SqL K H p xs ∧ atI xs i = some v ∧ Q v H
def rIxT (K : PySem.W.Frag) : R2 := fun x y H Q => ∃ p xs i v, x = .ref p ∧ y = .int i ∧ SqT K H p xs ∧ atI xs i = some v ∧ Q v H
def rIxS : R2 := fun x y H Q => ∃ z i c, x = .str z ∧ y = .int i ∧ z.length ≤ sizeLine ∧ atI z.cps.toList i = some c ∧ Q (.str ⟨#[c]⟩) H
theorem ix_list : IxR X (rIxL X.K) := by
  intro value slice pins s σ H x y v u Q I rx ry h hs
  obtain ⟨p, xs, i, z, rfl, rfl, hq, he, q⟩ := h
  cases rx
  obtain ⟨t, rfl⟩ := ry
  obtain ⟨its, r, pl, hz⟩ := I.list hq
  obtain ⟨j, h1, h2, h3, h4, h5⟩ := atI_get he
  obtain ⟨w, ew, rw'⟩ := r.get h2
  have hl := r.length
  have hn := line63
  have fin : EP X pins σ Q w s := ⟨z, H, I, rw', q⟩
  by_cases h0 : 0 ≤ i
  · have hj : i.toNat = j := by
      rw [seqIndex_of h0 h5] at h1
      exact Option.some.inj h1
    exact item_listR pl.isList h0 (by omega) (by rw [hj]; simpa using ew) fin hs
  · have hj : (i + (its.toArray.size : Int)).toNat = j := by
      rw [seqIndex_neg (by omega) h4] at h1
      rw [List.size_toArray, ← hl]
      exact Option.some.inj h1
    exact subscriptTail_builtinR (x := w) pl.isList.typeIs slot_list_getitem.lookup
      (wpAny_getItem_list_neg (Q := fun r s' => r = w ∧ EP X pins σ Q r s') pl.isList (by omega) (by rw [List.size_toArray] <;> omega) (by omega) (by rw [hj]; simpa using ew) ⟨rfl, fin⟩) hs
theorem ix_tup : IxR X (rIxT X.K) := by
  intro value slice pins s σ H x y v u Q I rx ry h hs
  obtain ⟨p, xs, i, z, rfl, rfl, hq, he, q⟩ := h
  cases rx
  obtain ⟨t, rfl⟩ := ry
  obtain ⟨its, r, pl, hz⟩ := I.tuple hq
  obtain ⟨j, h1, h2, h3, h4, h5⟩ := atI_get he
  obtain ⟨w, ew, rw'⟩ := r.get h2
  have hl := r.length
  have hn := line63
  have fin : EP X pins σ Q w s := ⟨z, H, I, rw', q⟩
  exact subscriptTail_builtinR (x := w) pl.typeIs slot_tuple_getitem.lookup
    (getItem_tuple (j := j) (Q := fun r s' => r = w ∧ EP X pins σ Q r s') pl (by omega) (by omega) (by rw [List.size_toArray, ← hl]; exact h1) (by simpa using ew) ⟨rfl, fin⟩) hs
theorem ix_str : IxR X rIxS := by
  intro value slice pins s σ H x y v u Q I rx ry h hs
  obtain ⟨z, i, c, rfl, rfl, hz, he, q⟩ := h
  obtain ⟨t, rfl⟩ := rx
  obtain ⟨t', rfl⟩ := ry
  obtain ⟨j, h1, h2, h3, h4, h5⟩ := atI_get he
  have hl : z.cps.toList.length = z.length := by simp [Str.length]
  rw [hl] at h1 h4 h5
  have hn := line63
  exact tail_any (typeIs_str s z t) slot_str_getitem.lookup (getItem_str (c := c) (by
    have e1 : decide (i < -(2 ^ 63 : Int)) = false := decide_eq_false (by omega)
    have e2 : decide (i ≥ 2 ^ 63) = false := decide_eq_false (by omega)
    rw [e1, e2, Bool.or_false]) (by rw [h1]; simpa using h2) ⟨.str ⟨#[c]⟩, H, I.tok _, ⟨_, rfl⟩, q⟩) hs
/-- list, tuple or str -/
def rIx (K : PySem.W.Frag) : R2 := fun x y H Q => rIxL K x y H Q ∨ rIxT K x y H Q ∨ rIxS x y H Q

/-! ### xs[i] = v, any sign -/
theorem Inv.lst {pins : List (Addr × Obj)} {σ : St} {H : Hp} {s : Shared} {p : Addr} {xs : List V} (I : Inv X pins σ H s) (h : H p = some (.lst xs)) :
    ∃ (its : List Value) (n : Nat), Vals xs its ∧ s.heap.get? p = some { cls := .type "list", data := .seq its.toArray n } ∧ xs.length ≤ sizeLine := by
  obtain ⟨z, its, n, r, e⟩ := I.hok p _ h
  exact ⟨its, n, r, e, z⟩
def rSetL : V → V → V → Hp → (Hp → Prop) → Prop := fun o i v H Q => ∃ p xs k j, o = .ref p ∧ i = .int k ∧ H p = some (.lst xs) ∧ ixN xs.length k = some j ∧ Q (upd H p (.lst (xs.set j v)))

/-! ### slices -/
theorem slice_bounds (lo hi : Option Int) (n : Nat) : (sliceBounds lo hi none n).1 = ((HT.sIx n 0 lo : Nat) : Int) ∧ (sliceBounds lo hi none n).2.1 = ((HT.sIx n n hi : Nat) : Int) ∧ (sliceBounds lo hi none n).2.2 = 1 := by
  refine ⟨?_, ?_, rfl⟩
  · cases lo with
    | none => simp [sliceBounds, HT.sIx]
    | some i =>
      simp only [sliceBounds, HT.sIx, Option.getD_none, show (1 : Int) > 0 by decide, if_true]
      by_cases h : i < 0
      · simp only [h, if_true] <;> omega
      · simp only [h, if_false] <;> omega
  · cases hi with
    | none => simp [sliceBounds, HT.sIx]
    | some i =>
      simp only [sliceBounds, HT.sIx, Option.getD_none, show (1 : Int) > 0 by decide, if_true]
      by_cases h : i < 0
      · simp only [h, if_true] <;> omega
      · simp only [h, if_false] <;> omega
theorem slicePick_cut (its : List Value) (lo hi : Option Int) : slicePick its.toArray lo hi none = ((its.drop (HT.sIx its.length 0 lo)).take (HT.sIx its.length its.length hi - HT.sIx its.length 0 lo)).toArray := by
  obtain ⟨h1, h2, h3⟩ := slice_bounds lo hi its.toArray.size
  unfold slicePick
  rw [h1, h2, h3]
  simp only [sliceRange_one, pick_run, List.size_toArray] <;> rfl
/-- xs[lo:hi] of a list: a new list -/
def rSlL (K : PySem.W.Frag) : V → Option Int → Option Int → Hp → VK → Prop := fun x lo hi H Q => ∃ a xs, x = .ref a ∧ SqL K H a xs ∧ ∀ p, H p = none → Q (.ref p) (upd H p (.lst (cutV xs lo hi)))
theorem sl_list : SlR X (rSlL X.K) := by
  intro pins s σ H x v vl vu lo hi sl Q I rx hs pl pu h
  obtain ⟨a, xs, rfl, hx, q⟩ := h
  cases rx
  obtain ⟨its, r, ht, hz⟩ := I.list hx
  have hlen := r.length
  refine ⟨"list", _, slot_list_getitem.lookup, ht.isList.typeIs, ?_⟩
  refine wpAny_getItem_list_slice ht.isList hs pl pu .none (by simp) ?_ (by rw [List.size_toArray] <;> omega)
  rw [slicePick_cut, ← hlen]
  refine ⟨.ref s.heap.objs.size, _, I.laid (t' := s.toks) (o := .lst (cutV xs lo hi)) (fun b ob q => Heap.get?_push_of_some _ q) (Nat.le_refl _) ?_, rfl, q _ (I.hok.fresh (Nat.le_refl _))⟩
  exact ⟨Nat.le_trans (cutV_length xs lo hi) hz, _, 0, (r.drop (HT.sIx xs.length 0 lo)).take (HT.sIx xs.length xs.length hi - HT.sIx xs.length 0 lo), Heap.get?_push_size _ rfl⟩

/-! ### in, not in: flat items -/
def flatV : V → Bool
  | .non => true
  | .bl _ => true
  | .int _ => true
  | .str _ => true
  | _ => false
/-- == of flat values -/
def eqV : V → V → Bool
  | .non, .non => true
  | .bl a, .bl b => a == b
  | .bl a, .int b => (if a then 1 else 0) == b
  | .int a, .bl b => a == (if b then 1 else 0)
  | .int a, .int b => a == b
  | .str a, .str b => a == b
  | _, _ => false
theorem eqAt_V {A : Around} {s : Shared} {y x : V} {u v : Value} (ry : RelV y u) (rx : RelV x v) (fy : flatV y = true) (fx : flatV x = true) : SeqAt.EqAt A s u v (eqV y x) := by
  cases y with
  | non =>
    cases ry
    cases x with
    | non => cases rx; exact SeqAt.EqAt.same _
    | bl b => cases rx; exact SeqAt.EqAt.none_bool b
    | int b => obtain ⟨t, rfl⟩ := rx; exact SeqAt.EqAt.none_int b t
    | str b => obtain ⟨t, rfl⟩ := rx; exact SeqAt.EqAt.none_str b t
    | _ => exact absurd (show false = true from fx) Bool.false_ne_true
  | bl a =>
    cases ry
    cases x with
    | non => cases rx; exact SeqAt.EqAt.bool_none a
    | bl b => cases rx; exact SeqAt.EqAt.bool_bool a b
    | int b => obtain ⟨t, rfl⟩ := rx; exact SeqAt.EqAt.bool_int a b t
    | str b => obtain ⟨t, rfl⟩ := rx; exact SeqAt.EqAt.bool_str a b t
    | _ => exact absurd (show false = true from fx) Bool.false_ne_true
  | int a =>
    obtain ⟨t', rfl⟩ := ry
    cases x with
    | non => cases rx; exact SeqAt.EqAt.int_none a t'
    | bl b => cases rx; exact SeqAt.EqAt.int_bool a t' b
    | int b => obtain ⟨t, rfl⟩ := rx; exact SeqAt.EqAt.int_int a t' b t
    | str b => obtain ⟨t, rfl⟩ := rx; exact SeqAt.EqAt.int_str a t' b t
    | _ => exact absurd (show false = true from fx) Bool.false_ne_true
  | str a =>
    obtain ⟨t', rfl⟩ := ry
    cases x with
    | non => cases rx; exact SeqAt.EqAt.str_none a t'
    | bl b => cases rx; exact SeqAt.EqAt.str_bool a t' b
    | int b => obtain ⟨t, rfl⟩ := rx; exact SeqAt.EqAt.str_int a t' b t
    | str b => obtain ⟨t, rfl⟩ := rx; exact SeqAt.EqAt.str_str a t' b t
    | _ => exact absurd (show false = true from fx) Bool.false_ne_true
  | _ => exact absurd (show false = true from fy) Bool.false_ne_true
/-- the items' answers, read off the values (a value's own answer does not lean on its token) -/
def eqU (x : V) (u : Value) : Bool := match u with
  | .none => eqV .non x
  | .bool b => eqV (.bl b) x
  | .int i _ => eqV (.int i) x
  | .str z _ => eqV (.str z) x
  | _ => false
theorem eqU_of {x y : V} {u : Value} (r : RelV y u) (f : flatV y = true) : eqU x u = eqV y x := by
  cases y with
  | non => cases r; rfl
  | bl b => cases r; rfl
  | int i => obtain ⟨t, rfl⟩ := r; rfl
  | str z => obtain ⟨t, rfl⟩ := r; rfl
  | _ => exact absurd (show false = true from f) Bool.false_ne_true
theorem any_eqU {x : V} : ∀ {xs : List V} {us : List Value}, Vals xs us → xs.all flatV = true → us.any (eqU x) = xs.any fun y => eqV y x
  | _, _, .nil, _ => rfl
  | y :: xs, u :: us, .cons r t, f => by
    rw [List.all_cons, Bool.and_eq_true] at f
    rw [List.any_cons, List.any_cons, eqU_of r f.1, any_eqU t f.2]
theorem mem_eqAt {A : Around} {s : Shared} {x : V} {v : Value} (rx : RelV x v) (fx : flatV x = true) : ∀ {xs : List V} {us : List Value}, Vals xs us → xs.all flatV = true → ∀ u ∈ us, SeqAt.EqAt A s u v (eqU x u)
  | _, _, .nil, _ => fun u hu => by cases hu
  | y :: xs, u :: us, .cons r t, f => fun u' hu => by
    rw [List.all_cons, Bool.and_eq_true] at f
    rcases List.mem_cons.mp hu with rfl | hu
    · rw [eqU_of r f.1]; exact eqAt_V r rx f.1 fx
    · exact mem_eqAt rx fx t f.2 u' hu
def inV (x : V) (xs : List V) : Bool := xs.any fun y => eqV y x
/-- x in a list or tuple of flat items -/
def rIn (K : PySem.W.Frag) (neg : Bool) : R2 := fun x y H Q => ∃ p xs, y = .ref p ∧ (SqL K H p xs ∨ SqT K H p xs) ∧ flatV x = true ∧ xs.all flatV = true ∧ Q (.bl (if neg then !inV x xs else inV x xs)) H
theorem op_in_seq : OpR X (compareOp .In) (rIn X.K false) := by
  intro pins s σ H x y v u Q I rx ry h
  obtain ⟨p, xs, rfl, hq, fx, fs, q⟩ := h
  cases ry
  rcases hq with hq | hq
  · obtain ⟨its, r, pl, hz⟩ := I.list hq
    refine SeqAt.in_listAt (eqU x) pl.isList (fun w hw => mem_eqAt rx fx r fs w (by simpa using hw)) ⟨.bl _, H, I, rfl, ?_⟩
    rw [show its.toArray.any (eqU x) = its.any (eqU x) by simp, any_eqU r fs]
    exact q
  · obtain ⟨its, r, pl, hz⟩ := I.tuple hq
    refine SeqAt.in_tupleAt (eqU x) pl (fun w hw => mem_eqAt rx fx r fs w (by simpa using hw)) ⟨.bl _, H, I, rfl, ?_⟩
    rw [show its.toArray.any (eqU x) = its.any (eqU x) by simp, any_eqU r fs]
    exact q
theorem op_notIn_seq : OpR X (compareOp .NotIn) (rIn X.K true) := by
  intro pins s σ H x y v u Q I rx ry h
  obtain ⟨p, xs, rfl, hq, fx, fs, q⟩ := h
  cases ry
  rcases hq with hq | hq
  · obtain ⟨its, r, pl, hz⟩ := I.list hq
    refine SeqAt.notIn_listAt (eqU x) pl.isList (fun w hw => mem_eqAt rx fx r fs w (by simpa using hw)) ⟨.bl _, H, I, rfl, ?_⟩
    rw [show its.toArray.any (eqU x) = its.any (eqU x) by simp, any_eqU r fs]
    exact q
  · obtain ⟨its, r, pl, hz⟩ := I.tuple hq
    refine SeqAt.notIn_tupleAt (eqU x) pl (fun w hw => mem_eqAt rx fx r fs w (by simpa using hw)) ⟨.bl _, H, I, rfl, ?_⟩
    rw [show its.toArray.any (eqU x) = its.any (eqU x) by simp, any_eqU r fs]
    exact q

/-! ### len, list(x), tuple(x) of any list or tuple that is read -/
theorem CallR.or {f : Value} {r r' : List V → Hp → VK → Prop} (h : CallR X f r) (h' : CallR X f r') : CallR X f (fun xs H Q => r xs H Q ∨ r' xs H Q) := by
  intro pins s σ H xs us Q I rs q
  rcases q with q | q
  · exact h pins s σ H xs us Q I rs q
  · exact h' pins s σ H xs us Q I rs q
theorem call_list_of : CallR X (.type "list") (fun xs H Q => ∃ p ys, xs = [.ref p] ∧ (SqL X.K H p ys ∨ SqT X.K H p ys) ∧ ∀ l, H l = none → Q (.ref l) (upd H l (.lst ys))) := by
  intro pins s σ H xs us Q I r h
  obtain ⟨p, ys, rfl, hq, q⟩ := h
  obtain ⟨u, rfl, rx⟩ := vals1 r
  cases rx
  have fin : ∀ (its : List Value), Vals ys its → ys.length ≤ sizeLine → ∀ (h' : Heap) (c' : Nat), (∀ b o', s.heap.get? b = some o' → h'.get? b = some o') →
      h'.get? s.heap.objs.size = some { cls := .type "list", dict := none, data := .seq its.toArray c', slots := #[] } → EP X pins σ Q (.ref s.heap.objs.size) { s with heap := h' } := fun its r' hz h' c' kp e =>
    ⟨.ref s.heap.objs.size, _, I.laid (t' := s.toks) kp (Nat.le_refl _) (show ObjOk X.prog X.w _ h' _ (.lst ys) from ⟨hz, its, c', r', e⟩), rfl, q _ (I.hok.fresh (Nat.le_refl _))⟩
  rcases hq with hq | hq
  · obtain ⟨its, r', pl, hz⟩ := I.list hq
    have hlen := r'.length
    obtain ⟨o, ho, hc, n, hd⟩ := pl.isList
    exact call_list_seq p (.inl rfl) ho hc hd (fun h' c' kp e => fin its r' hz h' c' kp e) (by simp only [List.size_toArray] <;> omega)
  · obtain ⟨its, r', pl, hz⟩ := I.tuple hq
    have hlen := r'.length
    obtain ⟨o, ho, hc, n, hd⟩ := pl
    exact call_list_seq p (.inr rfl) ho hc hd (fun h' c' kp e => fin its r' hz h' c' kp e) (by simp only [List.size_toArray] <;> omega)

/-! ### the call of a builtin's method: o.m(..) -/
/-- the value is of that builtin type -/
def tyV (K : PySem.W.Frag) (T : String) (x : V) (H : Hp) : Prop := match x with
  | .str _ => T = "str"
  | .int _ => T = "int"
  | .ref p => (T = "list" ∧ ∃ xs, SqL K H p xs) ∨ (T = "tuple" ∧ ∃ o, K.lookup p = some o ∧ o.cls = .type "tuple" ∧ o.dict = none) ∨
      (T = "dict" ∧ ((∃ kvs, H p = some (.dK kvs)) ∨ ∃ kvs, H p = some (.dT kvs))) ∨ (T = "set" ∧ ∃ S n, H p = some (.set S n))
  | _ => False
theorem tyV_is {pins : List (Addr × Obj)} {σ : St} {H : Hp} {s : Shared} {T : String} {x : V} {v : Value} (I : Inv X pins σ H s) (r : RelV x v) (ty : tyV X.K T x H) :
    s.TypeIs v T ∧ ∀ a, v = .ref a → ∃ ob, s.heap.get? a = some ob ∧ ob.dict = none := by
  cases x with
  | str z =>
    obtain ⟨t, rfl⟩ := r
    cases (show T = "str" from ty)
    exact ⟨typeIs_str s z t, fun _ e => nomatch e⟩
  | int i =>
    obtain ⟨t, rfl⟩ := r
    cases (show T = "int" from ty)
    exact ⟨typeIs_int s i t, fun _ e => nomatch e⟩
  | ref p =>
    cases r
    rcases ty with ⟨rfl, xs, hq⟩ | ⟨rfl, o, hk, hc, hd⟩ | ⟨rfl, hk⟩ | ⟨rfl, S, n, hk⟩
    · obtain ⟨its, _, pl, _⟩ := I.list hq
      refine ⟨pl.isList.typeIs, fun a e => ?_⟩
      cases e
      obtain ⟨o, n, e, c, hd, _⟩ := pl
      exact ⟨o, e, hd⟩
    · refine ⟨⟨o, I.kIn p o hk, hc⟩, fun a e => ?_⟩
      cases e
      exact ⟨o, I.kIn _ o hk, hd⟩
    · have z : ∃ o, s.heap.get? p = some o ∧ o.ExactDict := by
        rcases hk with ⟨kvs, hk⟩ | ⟨kvs, hk⟩
        · obtain ⟨_, _, _, _, o, _, _, e, ex, _⟩ := I.hok p _ hk
          exact ⟨o, e, ex⟩
        · obtain ⟨_, _, _, _, o, _, _, e, ex, _⟩ := I.hok p _ hk
          exact ⟨o, e, ex⟩
      obtain ⟨o, e, ex⟩ := z
      refine ⟨⟨o, e, ex.1⟩, fun a e2 => ?_⟩
      cases e2
      exact ⟨o, e, ex.2.1⟩
    · obtain ⟨o, _, _, _, e, ex, _⟩ := I.hok p _ hk
      refine ⟨⟨o, e, ex.1⟩, fun a e2 => ?_⟩
      cases e2
      exact ⟨o, e, ex.2.1⟩
  | _ => exact False.elim ty
def tBM0 (K : PySem.W.Frag) (T : String) (r : V → List V → Hp → VK → Prop) (to : TE) : TE := fun σ H Q => to σ H fun x H1 => tyV K T x H1 ∧ r x [] H1 Q
def tBM (K : PySem.W.Frag) (T : String) (r : V → List V → Hp → VK → Prop) (to : TE) (t : TA) : TE := fun σ H Q => to σ H fun x H1 => tyV K T x H1 ∧ t σ H1 fun xs H2 => r x xs H2 Q
variable {o e : Expr} {es : List Expr} {to : TE} {t : TA} {name : Str} {apos cpos : Pos} {T id : String} {r : V → List V → Hp → VK → Prop}
theorem pe_bm (pa : PlainAttrs T) (slot : Slot T name id) (hty : typeOf (.builtin id) = pure (.type "method_descriptor")) (hm : MtR X id r) (ho : PE X o to) (ha : PA X (e :: es) t)
    (hbase : attributeBase o name X.env (eval o X.env) = eval o X.env := by rfl)
    (hfew : ((backTo cpos (starEach (e :: es) X.env)).all (fun x => !x.1) && (backToKw cpos (keywordEach [] X.env)).all (fun x => x.1.isSome)
      && decide ((e :: es).length + ([] : List Keyword).length + (if ([] : List Keyword).isEmpty then 0 else 1) < 30)) = true := by rfl)
    (hline : (apos.endLine == cpos.line) = true := by rfl) (hs : starEach (e :: es) X.env = (false, eval e X.env) :: starEach es X.env := by rfl) (hplain : (backTo cpos (starEach es X.env)).any (·.1) = false := by rfl) :
    PE X (.Call (.Attribute o name apos) (e :: es) [] cpos) (tBM X.K T r to t) := by
  intro pins s σ H Q I h
  refine wpAny_Call_method_late hbase hfew hline rfl (thn (ho pins s σ H _ I h) fun v s1 ⟨x, H1, I1, r1, ty, q1⟩ => ?_)
  obtain ⟨h1, h2⟩ := tyV_is I1 r1 ty
  refine ⟨T, id, pa, slot, hty, h1, h2, ?_⟩
  have hA := ha cpos pins s1 σ H1 _ I1 q1
  rw [hs] at hA ⊢
  refine Calls.callWith_builtin (by show (false || (backTo cpos (starEach es X.env)).any (·.1)) = false; rw [hplain] <;> rfl) (Calls.evalArgs_plain ?_)
  exact thn hA fun us s2 ⟨vs, H2, I2, r2, q2⟩ => hm pins s2 σ H2 x vs v us Q I2 r1 r2 q2
/- xs.append(e), list.index on a module's tuple .. are MtR facts of 06m -/
end
end L2

namespace L2
open PySem PySem.Spec PyProof.Rows

def MtM (X : Cx) (id : String) (r : V → List V → Hp → VK → Prop) : Prop :=
  ∀ (pins : List (Addr × Obj)) (s : Shared) (σ : St) (H : Hp) (x : V) (xs : List V) (v : Value) (us : List Value) (Q : VK), Inv X pins σ H s → RelV x v → Vals xs us → r x xs H Q →
    wpAny (model X.prog X.w) X.A (call (.builtin id) (v :: us)) (EP X pins σ Q) X.xe s

/-! ### lists of values -/
theorem Vals.one : ∀ {x : V} {us : List Value}, Vals [x] us → ∃ u, us = [u] ∧ RelV x u
  | _, _, .cons r .nil => ⟨_, rfl, r⟩
theorem Vals.two : ∀ {x y : V} {us : List Value}, Vals [x, y] us → ∃ u v, us = [u, v] ∧ RelV x u ∧ RelV y v
  | _, _, _, .cons r (.cons q .nil) => ⟨_, _, rfl, r, q⟩
theorem Vals.zero : ∀ {us : List Value}, Vals [] us → us = []
  | _, .nil => rfl
theorem Vals.dropLast {xs : List V} {us : List Value} (h : Vals xs us) : Vals xs.dropLast us.dropLast := by
  induction h with
  | nil => exact .nil
  | cons r t ih =>
    cases t with
    | nil => exact .nil
    | cons q t' => exact .cons r ih
theorem Vals.eraseIdx : ∀ {xs : List V} {us : List Value} (i : Nat), Vals xs us → Vals (xs.eraseIdx i) (us.eraseIdx i)
  | _, _, _, .nil => .nil
  | _, _, 0, .cons _ t => t
  | _, _, i + 1, .cons r t => .cons r (Vals.eraseIdx i t)
theorem Vals.reverse {xs : List V} {us : List Value} (h : Vals xs us) : Vals xs.reverse us.reverse := by
  induction h with
  | nil => exact .nil
  | cons r t ih => rw [List.reverse_cons, List.reverse_cons]; exact Vals.append ih (.cons r .nil)
theorem Vals.rep {xs : List V} {us : List Value} (h : Vals xs us) : ∀ k : Nat, Vals (List.replicate k xs).flatten (List.replicate k us).flatten
  | 0 => .nil
  | k + 1 => by
    rw [List.replicate_succ, List.replicate_succ, List.flatten_cons, List.flatten_cons]
    exact Vals.append h (Vals.rep h k)
theorem len_erase {α : Type} : ∀ (l : List α) (i : Nat), (l.eraseIdx i).length ≤ l.length
  | [], _ => Nat.le_refl _
  | _ :: _, 0 => Nat.le_succ _
  | _ :: r, i + 1 => Nat.succ_le_succ (len_erase r i)

section
variable {X : Cx} {pins : List (Addr × Obj)} {σ : St} {H : Hp} {s : Shared} {l b : Addr} {xs ys zs : List V}

/-! ### the two steps: a tracked list is rewritten, a new list is laid -/
theorem Inv.lset {its its' : List Value} {n : Nat} {f : Array Value → Array Value} {t' : Nat} (I : Inv X pins σ H s) (hH : H l = some (.lst xs))
    (e : s.heap.get? l = some { cls := .type "list", data := .seq its.toArray n }) (hf : f its.toArray = its'.toArray) (hv : Vals ys its') (hz : ys.length ≤ sizeLine) :
    Inv X pins σ (upd H l (.lst ys)) { s with heap := s.heap.update l (Obj.mapSeq f), toks := t' } := by
  have q := PySem.IsL.update e f
  rw [hf] at q
  refine I.write (x := l) (e := l) (by rw [hH]; exact trivial) (.inl rfl) (fun b' u hb hu => (Heap.get?_update_other s.heap (Obj.mapSeq f) (Ne.symm hb)).trans hu) ⟨_, q⟩ ?_
  exact ⟨hz, its', _, hv, q⟩
theorem Inv.lnew {its : List Value} {t' : Nat} (I : Inv X pins σ H s) (hv : Vals ys its) (hz : ys.length ≤ sizeLine) :
    Inv X pins σ (upd H s.heap.objs.size (.lst ys)) { s with heap := s.heap.push { cls := .type "list", data := .seq its.toArray }, toks := t' } :=
  I.laid (fun _ _ q => Heap.get?_push_of_some _ q) (Nat.le_refl _) ⟨hz, its, 0, hv, Heap.get?_push_size _ rfl⟩
theorem Inv.fresh (I : Inv X pins σ H s) : H s.heap.objs.size = none := I.hok.fresh (Nat.le_refl _)
theorem Inv.lstM (I : Inv X pins σ H s) (hH : H l = some (.lst xs)) : xs.length ≤ sizeLine ∧ ∃ (its : List Value) (n : Nat), Vals xs its ∧ xs.length = its.length ∧ s.heap.get? l = some { cls := .type "list", data := .seq its.toArray n } := by
  obtain ⟨z, its, n, r, e⟩ := I.hok l _ hH
  exact ⟨z, its, n, r, r.length, e⟩

theorem notLongL {n : Nat} (h : n ≤ sizeLine) : Builtin.List.listTooLong n = false := by
  unfold Builtin.List.listTooLong
  exact decide_eq_false (by omega)
end

section
variable {X : Cx}

/-! ### methods -/
def rAppend : V → List V → Hp → VK → Prop := fun x vs H Q => ∃ l xs y, x = .ref l ∧ vs = [y] ∧ H l = some (.lst xs) ∧ xs.length < sizeLine ∧ Q .non (upd H l (.lst (xs ++ [y])))
theorem mt_append : MtM X "list.append" rAppend := by
  intro pins s σ H x vs v us Q I rx rv h
  obtain ⟨l, xs, y, rfl, rfl, hH, hz, q⟩ := h
  cases rx
  obtain ⟨u, rfl, ru⟩ := rv.one
  obtain ⟨z, its, n, r, hl, e⟩ := I.lstM hH
  refine call_meets F.slot_list_append ⟨_, e, rfl⟩ F.entry_list_append (F.args_list_append_2 _ _) (PySem.list_append l its.toArray n u (by rw [List.size_toArray]; omega)) ⟨e, ?_⟩
  refine ⟨.non, _, I.lset (its' := its ++ [u]) hH e (by simp) (r.append (.cons ru .nil)) ?_, rfl, q⟩
  rw [List.length_append, List.length_singleton]
  omega

def rExtend : V → List V → Hp → VK → Prop := fun x vs H Q => ∃ l b xs zs, x = .ref l ∧ vs = [.ref b] ∧ H l = some (.lst xs) ∧ H b = some (.lst zs) ∧ xs.length + zs.length ≤ sizeLine ∧ Q .non (upd H l (.lst (xs ++ zs)))
theorem mt_extend : MtM X "list.extend" rExtend := by
  intro pins s σ H x vs v us Q I rx rv h
  obtain ⟨l, b, xs, zs, rfl, rfl, hH, hB, hz, q⟩ := h
  cases rx
  obtain ⟨u, rfl, ru⟩ := rv.one
  cases ru
  obtain ⟨z, its, n, r, hl, e⟩ := I.lstM hH
  obtain ⟨z2, its2, n2, r2, hl2, e2⟩ := I.lstM hB
  have hsz : its.toArray.size + its2.toArray.size ≤ sizeLine := by rw [List.size_toArray, List.size_toArray]; omega
  have hlong : ¬ (!its.toArray.isEmpty && Builtin.List.listTooLong (its.toArray.size + its2.toArray.size)) = true := by
    rw [notLongL hsz, Bool.and_false]
    exact Bool.false_ne_true
  refine call_meets F.slot_list_extend ⟨_, e, rfl⟩ F.entry_list_extend (F.args_list_extend_2 _ _)
    (AutoSeq1.list_extend_list_list_0 l its.toArray n b its2.toArray n2 hlong (by rw [List.size_toArray]; omega) (by omega)) ⟨e, e2, ?_⟩
  refine ⟨.non, _, I.lset (its' := its ++ its2) hH e (by simp) (r.append r2) ?_, rfl, q⟩
  rw [List.length_append]
  omega

def rPop : V → List V → Hp → VK → Prop := fun x vs H Q => ∃ l xs y, x = .ref l ∧ vs = [] ∧ H l = some (.lst xs) ∧ xs[xs.length - 1]? = some y ∧ Q y (upd H l (.lst xs.dropLast))

def rPopAt : V → List V → Hp → VK → Prop := fun x vs H Q => ∃ l xs i k y, x = .ref l ∧ vs = [.int i] ∧ H l = some (.lst xs) ∧ -(2 ^ 63) ≤ i ∧ i < 2 ^ 63 ∧ seqIndex? i xs.length = some k ∧ xs[k]? = some y ∧ Q y (upd H l (.lst (xs.eraseIdx k)))
theorem mt_popAt : MtM X "list.pop" rPopAt := by
  intro pins s σ H x vs v us Q I rx rv h
  obtain ⟨l, xs, i, k, y, rfl, rfl, hH, h1, h2, hk, hy, q⟩ := h
  cases rx
  obtain ⟨u, rfl, ru⟩ := rv.one
  obtain ⟨t, rfl⟩ := ru
  obtain ⟨z, its, n, r, hl, e⟩ := I.lstM hH
  obtain ⟨w, hw, rw'⟩ := r.get hy
  refine call_meets F.slot_list_pop ⟨_, e, rfl⟩ F.entry_list_pop (F.args_list_pop_2 _ _)
    (MeetsSeq.list_pop_at l its.toArray n i t k w (fitsIndex_both h1 h2) (by rw [List.size_toArray, ← hl]; exact hk) (by rw [← Array.getElem?_toList]; exact hw) (by rw [List.size_toArray]; omega)) ⟨e, ?_⟩
  refine ⟨y, _, I.lset (its' := its.eraseIdx k) hH e ?_ (r.eraseIdx k) ?_, rw', q⟩
  · show its.toArray.eraseIdxIfInBounds k = (its.eraseIdx k).toArray
    rw [List.eraseIdxIfInBounds_toArray]
  · have := len_erase xs k
    omega

def rReverse : V → List V → Hp → VK → Prop := fun x vs H Q => ∃ l xs, x = .ref l ∧ vs = [] ∧ H l = some (.lst xs) ∧ Q .non (upd H l (.lst xs.reverse))

def rClear : V → List V → Hp → VK → Prop := fun x vs H Q => ∃ l xs, x = .ref l ∧ vs = [] ∧ H l = some (.lst xs) ∧ Q .non (upd H l (.lst []))

/-! ### list + list, list += list, list * int -/
def rCat : R2 := fun x y H Q => ∃ l b xs zs, x = .ref l ∧ y = .ref b ∧ H l = some (.lst xs) ∧ H b = some (.lst zs) ∧ xs.length + zs.length ≤ sizeLine ∧ ∀ p, H p = none → Q (.ref p) (upd H p (.lst (xs ++ zs)))
theorem op_cat : OpR X (binaryOp .Add) rCat := by
  intro pins s σ H x y v u Q I rx ry h
  obtain ⟨l, b, xs, zs, rfl, rfl, hH, hB, hz, q⟩ := h
  cases rx
  cases ry
  obtain ⟨z, its, n, r, hl, e⟩ := I.lstM hH
  obtain ⟨z2, its2, n2, r2, hl2, e2⟩ := I.lstM hB
  refine PySem.P.add_list e e2 ?_ (by rw [List.size_toArray, List.size_toArray]; omega)
  have ea : its.toArray ++ its2.toArray = (its ++ its2).toArray := by simp
  rw [ea]
  exact ⟨.ref _, _, I.lnew (t' := s.toks) (r.append r2) (by rw [List.length_append]; omega), rfl, q _ I.fresh⟩
/-- a list times an int (a negative one is nothing) -/
def rRep : R2 := fun x y H Q => ∃ l k xs, x = .ref l ∧ y = .int k ∧ H l = some (.lst xs) ∧ -(2 ^ 63) ≤ k ∧ k < 2 ^ 63 ∧ xs.length * k.toNat ≤ sizeLine ∧
  ∀ p, H p = none → Q (.ref p) (upd H p (.lst (List.replicate k.toNat xs).flatten))

/-! ### del xs[i] -/
end

/-! ### xs[a:b] = ys -/
section
variable {prog : Program} {w : World} {A : Around} {E : Value → Shared → Prop} {s : Shared}
end

section
variable {X : Cx}
end
end L2

namespace L2
open PySem PySem.Spec PyProof.Rows

/-! ### lists of pairs as tables -/
section
variable {κ : Type} [DecidableEq κ]
def valV (kvs : List (κ × V)) (k : κ) : Option V := (kvs.find? fun kv => decide (kv.1 = k)).map (·.2)
/-- in its place, or at the end -/
def putK (kvs : List (κ × V)) (k : κ) (v : V) : List (κ × V) :=
  if (kvs.any fun kv => decide (kv.1 = k)) = true then kvs.map (fun kv => if kv.1 = k then (kv.1, v) else kv) else kvs ++ [(k, v)]
def dropK (kvs : List (κ × V)) (k : κ) : List (κ × V) := kvs.filter fun kv => decide (kv.1 ≠ k)

theorem valV_pos {p : κ × V} {r : List (κ × V)} {k : κ} (e : p.1 = k) : valV (p :: r) k = some p.2 := by simp [valV, List.find?_cons, e]
theorem valV_neg {p : κ × V} {r : List (κ × V)} {k : κ} (e : ¬ p.1 = k) : valV (p :: r) k = valV r k := by simp [valV, List.find?_cons, e]
theorem valV_any (k : κ) : ∀ kvs : List (κ × V), (kvs.any fun kv => decide (kv.1 = k)) = (valV kvs k).isSome
  | [] => rfl
  | p :: r => by
    rw [List.any_cons]
    by_cases e : p.1 = k
    · simp only [valV_pos e, decide_eq_true e, Bool.true_or, Option.isSome_some]
    · rw [valV_neg e, decide_eq_false e, Bool.false_or]; exact valV_any k r
theorem valV_map (k j : κ) (y : V) : ∀ kvs : List (κ × V), valV (kvs.map fun kv => if kv.1 = k then (kv.1, y) else kv) j = (valV kvs j).map fun x => if j = k then y else x
  | [] => rfl
  | p :: r => by
    have ih := valV_map k j y r
    rw [List.map_cons]
    by_cases h : p.1 = k
    · rw [if_pos h]
      by_cases e : p.1 = j
      · rw [valV_pos (p := (p.1, y)) e, valV_pos e, Option.map_some, if_pos (e.symm.trans h)]
      · rw [valV_neg (p := (p.1, y)) e, valV_neg e, ih]
    · rw [if_neg h]
      by_cases e : p.1 = j
      · rw [valV_pos (p := p) e, valV_pos e, Option.map_some, if_neg (fun z => h (e.trans z))]
      · rw [valV_neg (p := p) e, valV_neg e, ih]
theorem valV_snoc (k j : κ) (y : V) : ∀ kvs : List (κ × V), valV kvs k = none → valV (kvs ++ [(k, y)]) j = if j = k then some y else valV kvs j
  | [], _ => by
    by_cases e : k = j
    · rw [if_pos e.symm]; exact valV_pos (p := (k, y)) e
    · rw [if_neg (fun z => e z.symm)]; exact valV_neg (p := (k, y)) e
  | p :: r, hn => by
    rw [List.cons_append]
    have hk : ¬ p.1 = k := fun z => by rw [valV_pos z] at hn; cases hn
    rw [valV_neg hk] at hn
    have ih := valV_snoc k j y r hn
    by_cases e : p.1 = j
    · rw [valV_pos e, valV_pos e, if_neg (fun z => hk (e.trans z))]
    · rw [valV_neg e, valV_neg e, ih]
theorem valV_put (kvs : List (κ × V)) (k j : κ) (y : V) : valV (putK kvs k y) j = if j = k then some y else valV kvs j := by
  unfold putK
  by_cases a : (kvs.any fun kv => decide (kv.1 = k)) = true
  · rw [if_pos a, valV_map]
    rw [valV_any] at a
    by_cases e : j = k
    · obtain ⟨x, hx⟩ := Option.isSome_iff_exists.mp a
      rw [if_pos e, e, hx, Option.map_some, if_pos rfl]
    · rw [if_neg e]
      cases valV kvs j with
      | none => rfl
      | some x => rw [Option.map_some, if_neg e]
  · rw [if_neg a]
    refine valV_snoc k j y kvs ?_
    rw [valV_any] at a
    cases q : valV kvs k with
    | none => rfl
    | some x => rw [q] at a; exact (a rfl).elim
theorem length_putK (kvs : List (κ × V)) (k : κ) (v : V) : (putK kvs k v).length ≤ kvs.length + 1 := by
  unfold putK
  split
  · rw [List.length_map]; omega
  · rw [List.length_append, List.length_cons, List.length_nil]; omega
theorem putK_new {kvs : List (κ × V)} {k : κ} (v : V) (h : valV kvs k = none) : putK kvs k v = kvs ++ [(k, v)] := by
  unfold putK
  rw [valV_any, h]
  exact if_neg (by decide)

theorem RelO.isSome_eq {o : Option V} {u : Option Value} (r : RelO o u) : o.isSome = u.isSome := by
  cases o with
  | none => cases u with
    | none => rfl
    | some _ => exact (show False from r).elim
  | some _ => cases u with
    | none => exact (show False from r).elim
    | some _ => rfl
theorem RelO.getD {o : Option V} {u : Option Value} {d : V} {d' : Value} (r : RelO o u) (rd : RelV d d') : RelV (o.getD d) (u.getD d') := by
  cases o with
  | none => cases u with
    | none => exact rd
    | some _ => exact (show False from r).elim
  | some _ => cases u with
    | none => exact (show False from r).elim
    | some _ => exact r

/-- raw tables of the same keys -/
theorem KV.val {kvs : List (κ × V)} {vs : List (κ × Value)} (r : KV kvs vs) (k : κ) : RelO (valV kvs k) (valueAt vs k) := by
  unfold KV at r
  induction r with
  | nil => exact True.intro
  | @cons p q ps qs h t ih =>
    obtain ⟨h1, h2⟩ := h
    by_cases e : p.1 = k
    · have e' : q.1 = k := h1.symm.trans e
      have b : valueAt (q :: qs) k = some q.2 := by simp [valueAt, List.find?_cons, e']
      rw [valV_pos e, b]; exact h2
    · have e' : ¬ q.1 = k := fun z => e (h1.trans z)
      have b : valueAt (q :: qs) k = valueAt qs k := by simp [valueAt, List.find?_cons, e']
      rw [valV_neg e, b]; exact ih
theorem KV.any {kvs : List (κ × V)} {vs : List (κ × Value)} (r : KV kvs vs) (k : κ) : (kvs.any fun kv => decide (kv.1 = k)) = vs.any fun kv => decide (kv.1 = k) := by
  unfold KV at r
  induction r with
  | nil => rfl
  | cons h t ih => rw [List.any_cons, List.any_cons, ih, h.1]
theorem KV.repl {kvs : List (κ × V)} {vs : List (κ × Value)} (r : KV kvs vs) (k : κ) {y : V} {u : Value} (ry : RelV y u) :
    KV (kvs.map fun kv => if kv.1 = k then (kv.1, y) else kv) (vs.map fun kv => if kv.1 = k then (kv.1, u) else kv) := by
  unfold KV at r ⊢
  induction r with
  | nil => exact .nil
  | @cons p q ps qs h t ih =>
    rw [List.map_cons, List.map_cons]
    refine .cons ?_ ih
    obtain ⟨h1, h2⟩ := h
    by_cases e : p.1 = k
    · rw [if_pos e, if_pos (h1.symm.trans e)]; exact ⟨h1, ry⟩
    · rw [if_neg e, if_neg (fun z => e (h1.trans z))]; exact ⟨h1, h2⟩
theorem KV.put {kvs : List (κ × V)} {vs : List (κ × Value)} (r : KV kvs vs) (k : κ) {y : V} {u : Value} (ry : RelV y u) : KV (putK kvs k y) (stored vs k u) := by
  unfold putK stored
  rw [r.any k]
  by_cases e : (vs.any fun kv => decide (kv.1 = k)) = true
  · rw [if_pos e, if_pos e]; exact r.repl k ry
  · rw [if_neg e, if_neg e]; exact Paired.snoc r ⟨rfl, ry⟩
theorem KV.drop {kvs : List (κ × V)} {vs : List (κ × Value)} (r : KV kvs vs) (k : κ) : KV (dropK kvs k) (without vs k) := by
  unfold KV at r ⊢
  unfold dropK without
  induction r with
  | nil => exact .nil
  | @cons p q ps qs h t ih =>
    obtain ⟨h1, h2⟩ := h
    rw [List.filter_cons, List.filter_cons]
    by_cases e : p.1 = k
    · have a : ¬ decide (p.1 ≠ k) = true := by simp [e]
      have b : ¬ decide (q.1 ≠ k) = true := by simp [h1.symm.trans e]
      rw [if_neg a, if_neg b]; exact ih
    · have e' : ¬ q.1 = k := fun z => e (h1.trans z)
      have a : decide (p.1 ≠ k) = true := by simp [e]
      have b : decide (q.1 ≠ k) = true := by simp [e']
      rw [if_pos a, if_pos b]; exact .cons ⟨h1, h2⟩ ih
theorem KV.keys {kvs : List (κ × V)} {vs : List (κ × Value)} (r : KV kvs vs) : kvs.map (·.1) = vs.map (·.1) := by
  unfold KV at r
  induction r with
  | nil => rfl
  | cons h t ih => rw [List.map_cons, List.map_cons, ih, h.1]
theorem KV.length {kvs : List (κ × V)} {vs : List (κ × Value)} (r : KV kvs vs) : kvs.length = vs.length := Paired.length r
theorem dropK_le (kvs : List (κ × V)) (k : κ) : (dropK kvs k).length ≤ kvs.length := List.length_filter_le _ _
end


/-! ### a tracked dict, its keys ints and texts or tuples of these -/
theorem kV_is {P : Program} {w : World} {k : Key} {u : Value} (r : RelV (kV k) u) : (mixKind P w).is k u = true := by
  cases k with
  | inl i => obtain ⟨t, e⟩ := (show ∃ t, u = Value.int i t from r); subst e; exact mixKind_int P w i t
  | inr x => obtain ⟨t, e⟩ := (show ∃ t, u = Value.str x t from r); subst e; exact mixKind_str P w x t
theorem items_are {P : Program} {w : World} : ∀ {ks : List Key} {us : List Value}, Vals (ks.map kV) us → ItemsAre (mixKind P w) ks us
  | [], _, r => by rw [List.map_nil] at r; cases r; exact .nil
  | k :: ks, _, r => by
    rw [List.map_cons] at r
    cases r with
    | cons h t => exact .cons (kV_is h) (items_are t)

/-- raw entries of a dict with tuple keys -/
abbrev KT (H : Hp) : List (List Key × V) → List (List Key × Addr × Value) → Prop := Paired fun p q => p.1 = q.1 ∧ H q.2.1 = some (.tup (p.1.map kV)) ∧ RelV p.2 q.2.2
theorem KT.val {H : Hp} {kvs : List (List Key × V)} {xs : List (List Key × Addr × Value)} (r : KT H kvs xs) (k : List Key) : RelO (valV kvs k) ((atKey xs k).map (·.2)) := by
  induction r with
  | nil => exact True.intro
  | @cons p q ps qs h t ih =>
    obtain ⟨h1, _, h2⟩ := h
    by_cases e : p.1 = k
    · have e' : q.1 = k := h1.symm.trans e
      have b : atKey (q :: qs) k = some q.2 := by simp [atKey, List.find?_cons, e']
      rw [valV_pos e, b]; exact h2
    · have e' : ¬ q.1 = k := fun z => e (h1.trans z)
      have b : atKey (q :: qs) k = atKey qs k := by simp [atKey, List.find?_cons, e']
      rw [valV_neg e, b]; exact ih
theorem KT.repl {H : Hp} {kvs : List (List Key × V)} {xs : List (List Key × Addr × Value)} (r : KT H kvs xs) (k : List Key) {y : V} {u : Value} (ry : RelV y u) :
    KT H (kvs.map fun kv => if kv.1 = k then (kv.1, y) else kv) (xs.map (putAt k u)) := by
  induction r with
  | nil => exact .nil
  | @cons p q ps qs h t ih =>
    rw [List.map_cons, List.map_cons]
    refine .cons ?_ ih
    obtain ⟨h1, h2, h3⟩ := h
    unfold putAt
    by_cases e : p.1 = k
    · rw [if_pos e, if_pos (h1.symm.trans e)]; exact ⟨h1, h2, ry⟩
    · rw [if_neg e, if_neg (fun z => e (h1.trans z))]; exact ⟨h1, h2, h3⟩
theorem KT.put {H : Hp} {kvs : List (List Key × V)} {xs : List (List Key × Addr × Value)} (r : KT H kvs xs) (k : List Key) {b : Addr} {y : V} {u : Value} (hb : H b = some (.tup (k.map kV))) (ry : RelV y u) :
    KT H (putK kvs k y) (storedH xs k b u) := by
  have e : (kvs.any fun kv => decide (kv.1 = k)) = (atKey xs k).isSome := by
    rw [valV_any, (r.val k).isSome_eq, Option.isSome_map]
  unfold putK storedH
  rw [e]
  by_cases q : (atKey xs k).isSome = true
  · rw [if_pos q, if_pos q]; exact r.repl k ry
  · rw [if_neg q, if_neg q]; exact Paired.snoc r ⟨rfl, hb, ry⟩
theorem KT.keeps {H H' : Hp} {kvs : List (List Key × V)} {xs : List (List Key × Addr × Value)} (r : KT H kvs xs) (ht : ∀ b ys, H b = some (.tup ys) → H' b = some (.tup ys)) : KT H' kvs xs :=
  Paired.mapP r fun _ _ z => ⟨z.1, ht _ _ z.2.1, z.2.2⟩

section
variable {P : Program} {w : World} {H : Hp} {h : Heap} {a : Addr}
theorem rd_of {u : HO} (ok : HOk P w H h) (e : Rd H a u) : ObjOk P w H h a u := e.ok ok
theorem dk_rd {kvs : List (Key × V)} (ok : HOk P w H h) (e : Rd H a (.dK kvs)) : kvs.length ≤ sizeLine ∧ (a == sysModules) = false ∧ ∃ vs, KV kvs vs ∧ h.DictOf (mixKind P w) a vs :=
  show ObjOk P w H h a (.dK kvs) from rd_of ok e
theorem dk_of {kvs : List (Key × V)} (ok : HOk P w H h) (e : H a = some (.dK kvs)) : kvs.length ≤ sizeLine ∧ (a == sysModules) = false ∧ ∃ vs, KV kvs vs ∧ h.DictOf (mixKind P w) a vs := dk_rd ok (.inl e)
/-- a tracked tuple of ints and texts is a key -/
theorem key_of {ks : List Key} (ok : HOk P w H h) (e : H a = some (.tup (ks.map kV))) : (tupleKind (mixKind P w)).is h ks a := by
  obtain ⟨_, its, r, o, h1, h2, n, h3⟩ := (show ObjOk P w H h a (.tup (ks.map kV)) from ok a _ e)
  exact ⟨o, its.toArray, n, h1, h2, h3, by simpa using items_are r⟩
theorem dt_rd {kvs : List (List Key × V)} (ok : HOk P w H h) (e : Rd H a (.dT kvs)) : kvs.length ≤ sizeLine ∧ (a == sysModules) = false ∧
    ∃ xs, KT H kvs xs ∧ h.DictOfH (tupleKind (mixKind P w)) a xs := by
  obtain ⟨z, y, xs, r, o, es, ep, h1, h2, h3, h4, h5⟩ := (show ObjOk P w H h a (.dT kvs) from rd_of ok e)
  refine ⟨z, y, xs, r, o, es, ep, h1, h2, h3, h4, fun x hx => ?_, h5⟩
  have all : ∀ {l : List (List Key × V)} {m : List (List Key × Addr × Value)}, KT H l m → ∀ x ∈ m, (tupleKind (mixKind P w)).is h x.1 x.2.1 := by
    intro l m q
    induction q with
    | nil => intro x hx; exact nomatch hx
    | @cons p q ps qs hq t ih =>
      intro x hx
      rcases List.mem_cons.mp hx with e | hx
      · subst e
        exact key_of ok (by rw [← hq.1]; exact hq.2.1)
      · exact ih x hx
  exact all r x hx
theorem dt_of {kvs : List (List Key × V)} (ok : HOk P w H h) (e : H a = some (.dT kvs)) : kvs.length ≤ sizeLine ∧ (a == sysModules) = false ∧
    ∃ xs, KT H kvs xs ∧ h.DictOfH (tupleKind (mixKind P w)) a xs := dt_rd ok (.inl e)
end

/-- what the dict at a holds at the key y -/
def DGet (H : Hp) (a : Addr) (y : V) (r : Option V) : Prop :=
  (∃ kvs k, Rd H a (.dK kvs) ∧ y = kV k ∧ r = valV kvs k) ∨ ∃ kvs k b, Rd H a (.dT kvs) ∧ y = .ref b ∧ H b = some (.tup (k.map kV)) ∧ r = valV kvs k
/-- the heap behind a[y] = v -/
def DPut (H : Hp) (a : Addr) (y v : V) (H' : Hp) : Prop :=
  (∃ kvs k, H a = some (.dK kvs) ∧ y = kV k ∧ kvs.length < sizeLine ∧ H' = upd H a (.dK (putK kvs k v))) ∨
  ∃ kvs k b, H a = some (.dT kvs) ∧ y = .ref b ∧ H b = some (.tup (k.map kV)) ∧ kvs.length < sizeLine ∧ H' = upd H a (.dT (putK kvs k v))
theorem DGet.k {H : Hp} {a : Addr} {kvs : List (Key × V)} {k : Key} (e : H a = some (.dK kvs)) : DGet H a (kV k) (valV kvs k) := .inl ⟨kvs, k, .inl e, rfl, rfl⟩
theorem DGet.t {H : Hp} {a b : Addr} {kvs : List (List Key × V)} {k : List Key} (e : H a = some (.dT kvs)) (eb : H b = some (.tup (k.map kV))) : DGet H a (.ref b) (valV kvs k) := .inr ⟨kvs, k, b, .inl e, rfl, eb, rfl⟩
theorem DPut.k {H : Hp} {a : Addr} {kvs : List (Key × V)} {k : Key} {v : V} (e : H a = some (.dK kvs)) (hl : kvs.length < sizeLine) : DPut H a (kV k) v (upd H a (.dK (putK kvs k v))) := .inl ⟨kvs, k, e, rfl, hl, rfl⟩
theorem DPut.t {H : Hp} {a b : Addr} {kvs : List (List Key × V)} {k : List Key} {v : V} (e : H a = some (.dT kvs)) (eb : H b = some (.tup (k.map kV))) (hl : kvs.length < sizeLine) :
    DPut H a (.ref b) v (upd H a (.dT (putK kvs k v))) := .inr ⟨kvs, k, b, e, rfl, eb, hl, rfl⟩


section
variable {X : Cx} {pins : List (Addr × Obj)} {σ : St} {H : Hp} {s : Shared} {a : Addr} {y v : V} {u r : Value} {o : Option V} {A : Around} {E : Value → Shared → Prop}

theorem Inv.big (I : Inv X pins σ H s) : sysModules < s.heap.objs.size := by
  have h : mainGlobals < s.heap.objs.size := (I.mod.glob.keeps I.bk).lt
  exact Nat.lt_trans (by decide) h

/-- d[y], there -/
theorem d_getItem {Q : Value → Shared → Prop} (hu : A.units + 1 < cLine) (I : Inv X pins σ H s) (g : DGet H a y (some v)) (ry : RelV y u) (h : ∀ w' s', Inv X pins σ H s' → RelV v w' → Q w' s') :
    wpAny (model X.prog X.w) A (getItem (.ref a) u) Q E s := by
  rcases g with ⟨kvs, k, e, ey, l⟩ | ⟨kvs, k, b, e, ey, eb, l⟩
  · subst ey
    obtain ⟨z, hd, vs, rel, dd⟩ := dk_rd I.hok e
    obtain ⟨w', hw, rw'⟩ := RelO.some_of (v := v) (o := valueAt vs k) (by rw [l]; exact rel.val k)
    exact wpAny_getItem_of (kV_is ry) dd.mapOf hw (h w' _ (I.tok _) rw')
  · subst ey
    cases (show u = Value.ref b from ry)
    obtain ⟨z, hd, xs, rel, dd⟩ := dt_rd I.hok e
    obtain ⟨w', hw, rw'⟩ := RelO.some_of (v := v) (o := (atKey xs k).map (·.2)) (by rw [l]; exact rel.val k)
    obtain ⟨p, hp, hp2⟩ := Option.map_eq_some_iff.mp hw
    refine wpAny_getItem_heap (tupleKind_room_in1 hu) (key_of I.hok eb) dd hp ?_
    rw [hp2]
    exact h w' _ (I.tok _) rw'
theorem d_notIn {Q : Value → Shared → Prop} (hu : A.units + 1 < cLine) (I : Inv X pins σ H s) (g : DGet H a y o) (ry : RelV y u) (h : ∀ s', Inv X pins σ H s' → Q (.bool (!o.isSome)) s') :
    wpAny (model X.prog X.w) A (compareOp .NotIn u (.ref a)) Q E s := by
  rcases g with ⟨kvs, k, e, ey, l⟩ | ⟨kvs, k, b, e, ey, eb, l⟩
  · subst ey
    obtain ⟨z, hd, vs, rel, dd⟩ := dk_rd I.hok e
    refine wpAny_notIn_of (kV_is ry) hd dd.mapOf ?_
    rw [← (rel.val k).isSome_eq, ← l]
    exact h _ (I.tok _)
  · subst ey
    cases (show u = Value.ref b from ry)
    obtain ⟨z, hd, xs, rel, dd⟩ := dt_rd I.hok e
    refine wpAny_notIn_heap (tupleKind_room_in1 hu) (key_of I.hok eb) hd dd ?_
    have q := (rel.val k).isSome_eq
    rw [Option.isSome_map] at q
    rw [← q, ← l]
    exact h _ (I.tok _)
/-- a dict's object is replaced -/
theorem d_write {h' : Heap} {t' : Nat} {ob : HO} (I : Inv X pins σ H s) (mu : Mut (H a)) (hs : Heap.SameBut a s.heap h') (he : ∃ q, h'.get? a = some q) (new : ObjOk X.prog X.w (upd H a ob) h' a ob) :
    Inv X pins σ (upd H a ob) { s with heap := h', toks := t' } :=
  I.write (x := a) (e := a) mu (.inl rfl) (fun b q hb z => (hs.2 b hb).trans z) he new
theorem dk_new {P : Program} {w : World} {H' : Hp} {h' : Heap} {kvs : List (Key × V)} {vs : List (Key × Value)} (z : kvs.length ≤ sizeLine) (hd : (a == sysModules) = false) (rel : KV kvs vs) (dd : h'.DictOf (mixKind P w) a vs) :
    ObjOk P w H' h' a (.dK kvs) := ⟨z, hd, vs, rel, dd⟩
/-- d[y] = v -/
theorem d_setItem {H' : Hp} {Q : Unit → Shared → Prop} (hu : A.units + 1 < cLine) (I : Inv X pins σ H s) (g : DPut H a y v H') (ry : RelV y u) (rv : RelV v r) (h : ∀ s', Inv X pins σ H' s' → Q () s') :
    wpAny (model X.prog X.w) A (setItem (.ref a) u r) Q E s := by
  rcases g with ⟨kvs, k, e, ey, l, eH⟩ | ⟨kvs, k, b, e, ey, eb, l, eH⟩
  · subst ey eH
    obtain ⟨z, hd, vs, rel, dd⟩ := dk_of I.hok e
    have hz : vs.length ≤ sizeLine := by rw [← rel.length]; exact z
    have hl : (putK kvs k v).length ≤ sizeLine := by have := length_putK kvs k v; omega
    refine wpAny_setItem_pairs (hsz := hz) (kV_is ry) dd fun h' dd' hs => h _ ?_
    have he : ∃ q, h'.get? a = some q := let ⟨q, _, _, hq, _⟩ := dd'; ⟨q, hq⟩
    exact d_write I (by rw [e]; exact True.intro) hs he (dk_new hl hd (rel.put k rv) dd')
  · subst ey eH
    cases (show u = Value.ref b from ry)
    obtain ⟨z, hd, xs, rel, dd⟩ := dt_of I.hok e
    have hz : xs.length ≤ sizeLine := by rw [← Paired.length rel]; exact z
    have hl : (putK kvs k v).length ≤ sizeLine := by have := length_putK kvs k v; omega
    refine wpAny_setItem_heap (hsz := hz) (tupleKind_room_in1 hu) (key_of I.hok eb) dd fun h' dd' hs => h _ ?_
    obtain ⟨q, es, ep, hq, h2, h3, h4, _, h5⟩ := dd'
    refine d_write I (by rw [e]; exact True.intro) hs ⟨q, hq⟩ ⟨hl, hd, _, (rel.put k eb rv).keeps fun c ys ec => ?_, q, es, ep, hq, h2, h3, h4, h5⟩
    rw [upd_ne (ne_of ec e (fun z => nomatch z))]
    exact ec
end

section
variable {X : Cx} {pins : List (Addr × Obj)} {σ : St} {H : Hp} {s : Shared} {a : Addr} {kvs : List (Key × V)} {k : Key} {u : Value} {A : Around} {E : Value → Shared → Prop}
/-- del d[k] -/
theorem d_delItem {Q : Unit → Shared → Prop} (I : Inv X pins σ H s) (e : H a = some (.dK kvs)) (ry : RelV (kV k) u) (l : (valV kvs k).isSome = true) (h : ∀ s', Inv X pins σ (upd H a (.dK (dropK kvs k))) s' → Q () s') :
    wpAny (model X.prog X.w) A (delItem (.ref a) u) Q E s := by
  obtain ⟨z, hd, vs, rel, dd⟩ := dk_of I.hok e
  refine wpAny_delItem_slot dd.typeIs (by decide) PySem.F.slot_dict_delitem
    (call_meetsIn PySem.F.slot_dict_delitem dd.typeIs PySem.F.entry_dict_delitem (PySem.F.args_dict_delitem_2 _ _) (meets_dict_delitem_pairs (mixKind X.prog X.w) a (kV_is ry)) ⟨vs, dd, by rw [← rel.length]; exact z, by rw [← (rel.val k).isSome_eq]; exact l, fun h' dd' hs => h _ ?_⟩)
  have he : ∃ q, h'.get? a = some q := let ⟨q, _, _, hq, _⟩ := dd'; ⟨q, hq⟩
  exact d_write I (by rw [e]; exact True.intro) hs he (dk_new (Nat.le_trans (dropK_le kvs k) z) hd (rel.drop k) dd')
/-- d.pop(k[, x]), there -/
theorem d_pop {v : V} {more : List Value} {Q : Value → Shared → Prop} (I : Inv X pins σ H s) (e : H a = some (.dK kvs)) (ry : RelV (kV k) u) (l : valV kvs k = some v) (hm : more = [] ∨ ∃ x, more = [x])
    (h : ∀ w' s', Inv X pins σ (upd H a (.dK (dropK kvs k))) s' → RelV v w' → Q w' s') : wpAny (model X.prog X.w) A (call (.builtin "dict.pop") (.ref a :: u :: more)) Q E s := by
  obtain ⟨z, hd, vs, rel, dd⟩ := dk_of I.hok e
  obtain ⟨w', hw, rw'⟩ := RelO.some_of (v := v) (o := valueAt vs k) (by rw [← l]; exact rel.val k)
  have hp : (keyPart u).isSome = true := by
    cases k with
    | inl i => obtain ⟨t, q⟩ := (show ∃ t, u = Value.int i t from ry); subst q; rfl
    | inr x => obtain ⟨t, q⟩ := (show ∃ t, u = Value.str x t from ry); subst q; rfl
  have ha : argsOk "dict.pop" ⟨.ref a :: u :: more, []⟩ := by
    rcases hm with q | ⟨x, q⟩
    · subst q; exact PySem.F.args_dict_pop_2 _ _
    · subst q; exact PySem.F.args_dict_pop_3 _ _ _
  refine call_meetsIn PySem.F.slot_dict_pop dd.typeIs PySem.F.entry_dict_pop ha (meets_dict_pop_there (mixKind X.prog X.w) a (kV_is ry) more hm hp)
    ⟨vs, w', dd, by rw [← rel.length]; exact z, hw, fun h' dd' hs => h w' _ ?_ rw'⟩
  have he : ∃ q, h'.get? a = some q := let ⟨q, _, _, hq, _⟩ := dd'; ⟨q, hq⟩
  exact d_write I (by rw [e]; exact True.intro) hs he (dk_new (Nat.le_trans (dropK_le kvs k) z) hd (rel.drop k) dd')
/-- d.pop(k, x), not there -/
theorem d_popD {r : Value} {Q : Value → Shared → Prop} (I : Inv X pins σ H s) (e : H a = some (.dK kvs)) (ry : RelV (kV k) u) (l : valV kvs k = none) (h : ∀ s', Inv X pins σ H s' → Q r s') :
    wpAny (model X.prog X.w) A (call (.builtin "dict.pop") [.ref a, u, r]) Q E s := by
  obtain ⟨z, hd, vs, rel, dd⟩ := dk_of I.hok e
  have hn : valueAt vs k = none := RelO.none_of (by rw [← l]; exact rel.val k)
  have hp : (keyPart u).isSome = true := by
    cases k with
    | inl i => obtain ⟨t, q⟩ := (show ∃ t, u = Value.int i t from ry); subst q; rfl
    | inr x => obtain ⟨t, q⟩ := (show ∃ t, u = Value.str x t from ry); subst q; rfl
  exact call_meetsIn PySem.F.slot_dict_pop dd.typeIs PySem.F.entry_dict_pop (PySem.F.args_dict_pop_3 _ _ _) (meets_dict_pop_default (mixKind X.prog X.w) a (kV_is ry) hd hp r) ⟨vs, dd, hn, h _ (I.tok _)⟩
end


/-! ### readings and rules -/
/-- the element of a subscription, not a slice -/
def NoSl (i : Expr) : Prop := ∀ ov iv, subscripted i false ov iv = operate [ov, iv] (getItem ov iv)
theorem subD_of {prog : Program} {w : World} {A : Around} {E : Value → Shared → Prop} {s : Shared} {env : Env} {value slice : Expr} {pos : Pos} {T id : String} {Q : Value → Shared → Prop}
    (hl : typeLookup (.type T) "__getitem__" = pure (some (.builtin id))) (hs : NoSl slice)
    (h : wpAny (model prog w) A (eval value env) (fun o s₁ => wpAny (model prog w) A (eval slice env) (fun i s₂ => s₂.TypeIs o T ∧ wpAny (model prog w) A (getItem o i) Q E s₂) E s₁) E s) :
    wpAny (model prog w) A (eval (.Subscript value slice pos) env) Q E s := by
  refine Subscript_ (wpAny_mono h (fun o s₁ h₁ => wpAny_mono h₁ (fun i s₂ h₂ => ?_) fun _ _ x => x) fun _ _ x => x)
  obtain ⟨hT, h₂⟩ := h₂
  unfold subscriptTail
  refine wpAny_bind ?_
  rw [getitemInPython_of_ne hT.not_modules]
  refine wpAny_bind (wpAny_specialOf hT hl ?_)
  have fin : wpAny (model prog w) A (subscripted slice false o i) (fun r s₃ => wpAny (model prog w) A (letTemporaryGo value o r >>= fun _ => pure r) Q E s₃) E s₂ := by
    rw [hs o i]
    exact wpAny_operating (wpAny_mono h₂ (fun r s₃ h₃ => wpAny_bind (wpAny_letTemporaryGo (wpAny_pure h₃))) fun _ _ x => x)
  first
    | exact wpAny_pure (wpAny_bind fin)
    | exact wpAny_bind (wpAny_pure (wpAny_bind fin))
    | exact wpAny_bind fin

theorem dict_typeIs {X : Cx} {pins : List (Addr × Obj)} {σ : St} {H : Hp} {s : Shared} {a : Addr} {y : V} {o : Option V} (I : Inv X pins σ H s) (g : DGet H a y o) : s.TypeIs (.ref a) "dict" := by
  rcases g with ⟨kvs, k, e, _, _⟩ | ⟨kvs, k, b, e, _, _, _⟩
  · obtain ⟨_, _, vs, _, dd⟩ := dk_rd I.hok e
    exact dd.typeIs
  · obtain ⟨_, _, xs, _, dd⟩ := dt_rd I.hok e
    exact dd.typeIs

/-- d[y] -/
def tDGet (td ty : TE) : TE := fun σ H Q => td σ H fun x H1 => ty σ H1 fun y H2 => ∃ a v, x = .ref a ∧ DGet H2 a y (some v) ∧ Q v H2
/-- y in d, y not in d -/
def tDIn (ty td : TE) : TE := fun σ H Q => ty σ H fun y H1 => td σ H1 fun x H2 => ∃ a o, x = .ref a ∧ DGet H2 a y o ∧ Q (.bl o.isSome) H2
def tDNotIn (ty td : TE) : TE := fun σ H Q => ty σ H fun y H1 => td σ H1 fun x H2 => ∃ a o, x = .ref a ∧ DGet H2 a y o ∧ Q (.bl (!o.isSome)) H2
/-- d[y] = v -/
def sDPut (td ty tv : TE) : TS := fun D σ H => tv σ H fun v H1 => td σ H1 fun x H2 => ty σ H2 fun y H3 => ∃ a H4, x = .ref a ∧ DPut H3 a y v H4 ∧ D.nx σ H4
/-- d[y] op= v -/
def sDAug (td ty tv : TE) (rd : V → V → Hp → VK → Prop) : TS := fun D σ H => td σ H fun x H1 => ty σ H1 fun y H2 => ∃ a v, x = .ref a ∧ DGet H2 a y (some v) ∧
  tv σ H2 fun y2 H3 => rd v y2 H3 fun z H4 => ∃ H5, DPut H4 a y z H5 ∧ D.nx σ H5
/-- del d[y] -/
def sDDel (td ty : TE) : TS := fun D σ H => td σ H fun x H1 => ty σ H1 fun y H2 => ∃ a kvs k, x = .ref a ∧ H2 a = some (.dK kvs) ∧ y = kV k ∧ (valV kvs k).isSome = true ∧ D.nx σ (upd H2 a (.dK (dropK kvs k)))

section
variable {X : Cx} {o i e value : Expr} {pos pos' tpos : Pos} {td ty tv : TE}
theorem pe_dget (hu : X.A.units + 1 < cLine) (ho : PE X o td) (hi : PE X i ty) (hs : NoSl i) : PE X (.Subscript o i pos) (tDGet td ty) := by
  intro pins s σ H Q I h
  refine subD_of PySem.F.slot_dict_getitem.lookup hs (thn (ho pins s σ H _ I h) fun u s1 ⟨x, H1, I1, rx, q1⟩ => thn (hi pins s1 σ H1 _ I1 q1) fun iv s2 ⟨y, H2, I2, ry, a, v, ex, g, q2⟩ => ?_)
  subst ex
  obtain rfl : u = Value.ref a := rx
  exact ⟨dict_typeIs I2 g, d_getItem hu I2 g ry fun w' s3 I3 rw' => ⟨v, H2, I3, rw', q2⟩⟩
theorem pc_dnotin (hu : X.A.units + 1 < cLine) (hi : PE X i ty) (ho : PE X o td) : PC X .NotIn i o (tDNotIn ty td) := by
  intro pins s σ H Q I h
  refine thn (hi pins s σ H _ I h) fun iv s1 ⟨y, H1, I1, ry, q1⟩ => thn (ho pins s1 σ H1 _ I1 q1) fun u s2 ⟨x, H2, I2, rx, a, ov, ex, g, q2⟩ => ?_
  subst ex
  obtain rfl : u = Value.ref a := rx
  exact d_notIn hu I2 g ry fun s3 I3 => ⟨.bl (!ov.isSome), H2, I3, rfl, q2⟩
theorem ps_dput (hu : X.A.units + 1 < cLine) (ho : PE X o td) (hi : PE X i ty) (hv : PE X value tv) (hs : swapsWith value (some (.Subscript o i pos')) pos.line X.env = pure false) :
    PS X (.Assign [.Subscript o i pos'] value pos) (sDPut td ty tv) := by
  intro pins s σ H D I h
  refine wpAny_Assign_Subscript (thn (hv pins s σ H _ I h) fun r s1 ⟨v, H1, I1, rv, q1⟩ => thn (ho pins s1 σ H1 _ I1 q1) fun u s2 ⟨x, H2, I2, rx, q2⟩ => thn (hi pins s2 σ H2 _ I2 q2) fun iv s3 ⟨y, H3, I3, ry, a, H4, ex, g, q3⟩ => ?_) hs
  subst ex
  obtain rfl : u = Value.ref a := rx
  exact d_setItem hu I3 g ry rv fun s4 I4 => ⟨σ, H4, I4, q3⟩
theorem ps_daug {op : Operator} {rd : V → V → Hp → VK → Prop} (hu : X.A.units + 1 < cLine) (ho : PE X o td) (hi : PE X i ty) (hv : PE X value tv) (hop : InOp X op rd)
    (ha : ∀ ov iv new, augStore i ov iv new = (do holding [new, ov, iv] (setItem ov iv new); release [new, ov, iv] []; pure .next)) : PS X (.AugAssign (.Subscript o i tpos) op value pos) (sDAug td ty tv rd) := by
  intro pins s σ H D I h
  refine wpAny_AugAssign_SubscriptAny (thn (ho pins s σ H _ I h) fun u s1 ⟨x, H1, I1, rx, q1⟩ => thn (hi pins s1 σ H1 _ I1 q1) fun iv s2 ⟨y, H2, I2, ry, a, v, ex, g, q2⟩ => ?_) ha
  subst ex
  obtain rfl : u = Value.ref a := rx
  refine d_getItem hu I2 g ry fun w' s3 I3 rw' => thn (hv pins s3 σ H2 _ I3 q2) fun w2 s4 ⟨y2, H3, I4, ry2, q3⟩ => thn (hop pins s4 σ H3 v y2 w' w2 _ I4 rw' ry2 q3) fun w3 s5 ⟨z, H4, I5, rz, H5, g5, q4⟩ => ?_
  exact d_setItem hu I5 g5 ry rz fun s6 I6 => ⟨σ, H5, I6, q4⟩
end


/-! ### displays -/
theorem dk_empty {P : Program} {w : World} {H : Hp} (h : Heap) (hb : sysModules < h.objs.size) : ObjOk P w H (h.push { cls := .type "dict", data := .dict #[] }) h.objs.size (.dK []) :=
  ⟨Nat.zero_le _, beq_eq_false_iff_ne.mpr (Ne.symm (Nat.ne_of_lt hb)), [], .nil, Heap.DictOf.new h⟩
/-- {}, to be a dict of the kind that is wanted -/
def tDNewK : TE := fun _ H Q => ∀ p, H p = none → Q (.ref p) (upd H p (.dK []))
def tDNewT : TE := fun _ H Q => ∀ p, H p = none → Q (.ref p) (upd H p (.dT []))
section
variable {X : Cx} {pos : Pos}
theorem pe_dnewK : PE X (.Dict [] [] pos) tDNewK := fun pins s σ H Q I h =>
  wpAny_Dict_empty ⟨.ref s.heap.objs.size, _, I.laid (a := s.heap.objs.size) (o := .dK []) (t' := s.toks) (fun _ _ q => Heap.get?_push_of_some _ q) (Nat.le_refl _) (dk_empty s.heap I.big), rfl, h _ (I.hok.fresh (Nat.le_refl _))⟩
end

/-- the pairs of a display, from the left -/
def tPairs : List (TE × TE) → St → Hp → (List (V × V) → Hp → Prop) → Prop
  | [], _, H, Q => Q [] H
  | (tk, tv) :: r, σ, H, Q => tk σ H fun x H1 => tv σ H1 fun y H2 => tPairs r σ H2 fun ps H3 => Q ((x, y) :: ps) H3
abbrev VV : List (V × V) → List (Value × Value) → Prop := Paired fun p q => RelV p.1 q.1 ∧ RelV p.2 q.2
def PPs (X : Cx) (pos : Pos) (keys : List (Option Expr)) (values : List Expr) (trs : List (TE × TE)) : Prop :=
  ∀ (pins : List (Addr × Obj)) (s : Shared) (σ : St) (H : Hp) (Q : List (V × V) → Hp → Prop), Inv X pins σ H s → tPairs trs σ H Q →
    wpAny (model X.prog X.w) X.A (evalPairs (pairTrees keys values X.env pos)) (fun vs s' => ∃ ps H', Inv X pins σ H' s' ∧ VV ps vs ∧ Q ps H') X.xe s

def mergeK (kvs more : List (Key × V)) : List (Key × V) := more.foldl (fun acc kv => putK acc kv.1 kv.2) kvs
/-- {k: v, ..} with keys ints and texts; the new dict stands empty while the pairs are made -/
def tDisp (trs : List (TE × TE)) : TE := fun σ H Q => ∀ p, H p = none → tPairs trs σ (upd H p (.dK [])) fun ps H2 => H2 p = some (.dK []) ∧ ∃ kvs : List (Key × V), ps = kvs.map (fun kv => (kV kv.1, kv.2)) ∧ kvs.length ≤ 15 ∧ Q (.ref p) (upd H2 p (.dK (mergeK [] kvs)))


/-! ### methods -/
/-- a method call o.m(e) of a built-in, with one argument: what must be seen of the text -/
structure M1 (X : Cx) (o : Expr) (m : Str) (apos : Pos) (e : Expr) (cpos : Pos) : Prop where
  base : attributeBase o m X.env (eval o X.env) = eval o X.env
  few : ((backTo cpos (starEach [e] X.env)).all (fun x => !x.1) && (backToKw cpos (keywordEach [] X.env)).all (fun x => x.1.isSome)
    && decide (([e] : List Expr).length + ([] : List Keyword).length + (if ([] : List Keyword).isEmpty then 0 else 1) < 30)) = true
  line : (apos.endLine == cpos.line) = true
  trees : backTo cpos (starEach [e] X.env) = [(false, eval e X.env)]
structure M2 (X : Cx) (o : Expr) (m : Str) (apos : Pos) (e f : Expr) (cpos : Pos) : Prop where
  base : attributeBase o m X.env (eval o X.env) = eval o X.env
  few : ((backTo cpos (starEach [e, f] X.env)).all (fun x => !x.1) && (backToKw cpos (keywordEach [] X.env)).all (fun x => x.1.isSome)
    && decide (([e, f] : List Expr).length + ([] : List Keyword).length + (if ([] : List Keyword).isEmpty then 0 else 1) < 30)) = true
  line : (apos.endLine == cpos.line) = true
  trees : backTo cpos (starEach [e, f] X.env) = [(false, eval e X.env), (false, eval f X.env)]

/-- a is a dict, whatever its keys -/
def IsD (H : Hp) (a : Addr) : Prop := (∃ kvs, Rd H a (.dK kvs)) ∨ ∃ kvs, Rd H a (.dT kvs)
theorem isD_at {X : Cx} {pins : List (Addr × Obj)} {σ : St} {H : Hp} {s : Shared} {a : Addr} (I : Inv X pins σ H s) (d : IsD H a) :
    s.TypeIs (.ref a) "dict" ∧ (∀ b, Value.ref a = .ref b → ∃ ob, s.heap.get? b = some ob ∧ ob.dict = none) ∧ (a == sysModules) = false := by
  rcases d with ⟨kvs, e⟩ | ⟨kvs, e⟩
  · obtain ⟨_, hd, vs, _, dd⟩ := dk_rd I.hok e
    refine ⟨dd.typeIs, fun b q => ?_, hd⟩
    cases q
    obtain ⟨ob, _, _, h1, h2, _⟩ := dd
    exact ⟨ob, h1, h2.2.1⟩
  · obtain ⟨_, hd, xs, _, dd⟩ := dt_rd I.hok e
    refine ⟨dd.typeIs, fun b q => ?_, hd⟩
    cases q
    obtain ⟨ob, _, _, h1, h2, _⟩ := dd
    exact ⟨ob, h1, h2.2.1⟩

section
variable {X : Cx} {pins : List (Addr × Obj)} {σ : St} {H : Hp} {s : Shared} {a : Addr} {y d : V} {u r : Value} {o : Option V} {A : Around} {E : Value → Shared → Prop}
/-- d.get(y, x) -/
theorem d_get2 {Q : Value → Shared → Prop} (hu : A.units + 1 < cLine) (I : Inv X pins σ H s) (g : DGet H a y o) (ry : RelV y u) (rd : RelV d r) (h : ∀ w' s', Inv X pins σ H s' → RelV (o.getD d) w' → Q w' s') :
    wpAny (model X.prog X.w) A (call (.builtin "dict.get") [.ref a, u, r]) Q E s := by
  rcases g with ⟨kvs, k, e, ey, l⟩ | ⟨kvs, k, b, e, ey, eb, l⟩
  · subst ey
    obtain ⟨z, hd, vs, rel, dd⟩ := dk_rd I.hok e
    refine call_meetsIn PySem.F.slot_dict_get dd.typeIs PySem.F.entry_dict_get (PySem.F.args_dict_get_3 _ _ _) (meets_dict_get_default (mixKind X.prog X.w) a (kV_is ry) hd r) ⟨_, dd.mapOf, h _ _ (I.tok _) ?_⟩
    rw [l]
    exact (rel.val k).getD rd
  · subst ey
    cases (show u = Value.ref b from ry)
    obtain ⟨z, hd, xs, rel, dd⟩ := dt_rd I.hok e
    refine call_meetsIn PySem.F.slot_dict_get dd.typeIs PySem.F.entry_dict_get (PySem.F.args_dict_get_3 _ _ _) (meetsH_dict_get_default (tupleKind (mixKind X.prog X.w)) a b hd r) ⟨tupleKind_room_in1 hu, k, xs, key_of I.hok eb, dd, h _ _ (I.tok _) ?_⟩
    rw [l]
    exact (rel.val k).getD rd
end

def tDGet1 (td ty : TE) : TE := fun σ H Q => td σ H fun x H1 => ∃ a, x = .ref a ∧ IsD H1 a ∧ ty σ H1 fun y H2 => ∃ o, DGet H2 a y o ∧ Q (o.getD .non) H2
def tDGet2 (td ty tx : TE) : TE := fun σ H Q => td σ H fun x H1 => ∃ a, x = .ref a ∧ IsD H1 a ∧ ty σ H1 fun y H2 => tx σ H2 fun z H3 => ∃ o, DGet H3 a y o ∧ Q (o.getD z) H3
/-- d.pop(k): there; d.pop(k, x): there or not -/
def tDPop1 (td ty : TE) : TE := fun σ H Q => td σ H fun x H1 => ∃ a, x = .ref a ∧ IsD H1 a ∧ ty σ H1 fun y H2 => ∃ kvs k v, H2 a = some (.dK kvs) ∧ y = kV k ∧ valV kvs k = some v ∧ Q v (upd H2 a (.dK (dropK kvs k)))
def tDPop2 (td ty tx : TE) : TE := fun σ H Q => td σ H fun x H1 => ∃ a, x = .ref a ∧ IsD H1 a ∧ ty σ H1 fun y H2 => tx σ H2 fun z H3 => ∃ kvs k, H3 a = some (.dK kvs) ∧ y = kV k ∧
  (∀ v, valV kvs k = some v → Q v (upd H3 a (.dK (dropK kvs k)))) ∧ (valV kvs k = none → Q z H3)
section
variable {X : Cx} {o e f : Expr} {apos cpos : Pos} {td ty tx : TE}
theorem pe_dget2 (hu : X.A.units + 1 < cLine) (ho : PE X o td) (he : PE X e ty) (hf : PE X f tx) (m : M2 X o "get" apos e f cpos) : PE X (.Call (.Attribute o "get" apos) [e, f] [] cpos) (tDGet2 td ty tx) := by
  intro pins s σ H Q I h
  refine wpAny_Call_method m.base m.few m.line PySem.F.plainAttrs_dict PySem.F.slot_dict_get PySem.F.type_dict_get (thn (ho pins s σ H _ I h) fun u s1 ⟨x, H1, I1, rx, a, ex, d, q1⟩ => ?_)
  subst ex
  obtain rfl : u = Value.ref a := rx
  obtain ⟨t1, t2, _⟩ := isD_at I1 d
  refine ⟨t1, t2, ?_⟩
  rw [m.trees]
  refine Calls.callWith_builtin rfl (Calls.evalArgs_plain (Calls.spliced_cons (thn (he pins s1 σ H1 _ I1 q1) fun iv s2 ⟨y, H2, I2, ry, q2⟩ =>
    Calls.spliced_cons (thn (hf pins s2 σ H2 _ I2 q2) fun fv s3 ⟨z, H3, I3, rz, ov, g, q3⟩ => Calls.spliced_nil ?_))))
  exact d_get2 hu I3 g ry rz fun w' s4 I4 rw' => ⟨_, H3, I4, rw', q3⟩
theorem pe_dpop1 (ho : PE X o td) (he : PE X e ty) (m : M1 X o "pop" apos e cpos) : PE X (.Call (.Attribute o "pop" apos) [e] [] cpos) (tDPop1 td ty) := by
  intro pins s σ H Q I h
  refine wpAny_Call_method m.base m.few m.line PySem.F.plainAttrs_dict PySem.F.slot_dict_pop PySem.F.type_dict_pop (thn (ho pins s σ H _ I h) fun u s1 ⟨x, H1, I1, rx, a, ex, d, q1⟩ => ?_)
  subst ex
  obtain rfl : u = Value.ref a := rx
  obtain ⟨t1, t2, _⟩ := isD_at I1 d
  refine ⟨t1, t2, ?_⟩
  rw [m.trees]
  refine Calls.callWith_builtin rfl (Calls.evalArgs_plain (Calls.spliced_cons (thn (he pins s1 σ H1 _ I1 q1) fun iv s2 ⟨y, H2, I2, ry, kvs, k, v, ea, ey, l, q2⟩ => Calls.spliced_nil ?_)))
  subst ey
  exact d_pop I2 ea ry l (.inl rfl) fun w' s3 I3 rw' => ⟨v, _, I3, rw', q2⟩
end

/-! ### dict(d): a copy -/
section
variable {X : Cx} {pins : List (Addr × Obj)} {σ : St} {H : Hp} {s : Shared} {a : Addr} {kvs : List (Key × V)} {A : Around} {E : Value → Shared → Prop}
theorem d_copyOf {Q : Value → Shared → Prop} (I : Inv X pins σ H s) (e : Rd H a (.dK kvs)) (h : ∀ p s', H p = none → Inv X pins σ (upd H p (.dK kvs)) s' → Q (.ref p) s') : wpAny (model X.prog X.w) A (call (.type "dict") [.ref a]) Q E s := by
  obtain ⟨z, hd, vs, rel, dd⟩ := dk_rd I.hok e
  refine kt_call_dict hd dd (by rw [← rel.length]; exact z) fun h' dd' hs => ?_
  refine h _ _ (I.hok.fresh (Nat.le_refl _)) (I.laid (a := s.heap.objs.size) (o := .dK kvs) (t' := s.toks) (fun b q hq => ?_) (Nat.le_refl _) (dk_new z (beq_eq_false_iff_ne.mpr (Ne.symm (Nat.ne_of_lt I.big))) rel dd'))
  exact (hs.2 b (Nat.ne_of_lt (Heap.lt_size hq))).trans (Heap.get?_push_of_some _ hq)
end


section
variable {X : Cx} {pins : List (Addr × Obj)} {σ : St} {H : Hp} {s : Shared} {a : Addr} {y : V} {u : Value} {A : Around} {E : Value → Shared → Prop}
end
end L2

namespace Att
open PySem PySem.W PySem.Calls PyProof.Rows

/-! ### the script -/
theorem ints_of_wellAll {P : Params} {h : Heap} : ∀ (ns : List Int) (vs : List Value), WellAll P h vs (ns.map WData.int) → IntsAre vs ns := by
  intro ns
  induction ns with
  | nil =>
    intro vs w
    rw [List.map_nil] at w
    cases w
    exact .nil
  | cons n ns ih =>
    intro vs w
    rw [List.map_cons] at w
    cases w with
    | cons a b =>
      cases a
      exact .cons _ _ (ih _ b)

theorem script_of {l : OpenLaw} {n : Nat} (hn : l.most = some n) {P : Params} {h : Heap} {args : List WData} {vals : List Value}
    (hpre : l.row.toRowW.claim.pre args = true) (hwl : WellAll P h vals args) :
    ∃ a vs ns, vals = [Value.ref a] ∧ args = [WData.list (ns.map WData.int)] ∧ h.get? a = some { cls := .type "list", data := .seq vs.toArray } ∧ IntsAre vs ns ∧ ns.length ≤ n := by
  have hsh : WShape.hasAll [] args [.list .int] = true := (pre_splitW hpre).1
  have hc : l.pre.holds [] { args := args } = true := (pre_splitW hpre).2
  obtain ⟨d, r, rfl, h1, h2⟩ := hasAllW_cons hsh
  obtain rfl := hasAllW_nil h2
  obtain ⟨xs, rfl, h3⟩ := hasW_list h1
  obtain ⟨ns, rfl⟩ := items_int h3
  have hlen : ns.length ≤ n := by
    unfold OpenLaw.pre at hc
    have h4 : (WTm.not (.lt (.lit (.int (n : Int))) (.len (.arg 0)))).holds [] { args := [.list (ns.map .int)] } = true := by
      have h4 := (holds_andW hc).1
      rw [hn] at h4
      exact h4
    have h5 := condW_of h4 (w_not (w_lt w_lit (w_len_list (w_arg rfl))))
    rw [List.length_map] at h5
    refine Nat.le_of_not_lt fun q => ?_
    have q' : (n : Int) < ((ns.length : Nat) : Int) := by omega
    first
      | (rw [decide_eq_true q'] at h5; exact absurd h5 (by decide))
      | (simp at h5; omega)
  cases hwl with
  | cons w1 w2 =>
    cases w2
    cases w1 with
    | list ho hall => exact ⟨_, _, ns, rfl, rfl, ho, ints_of_wellAll ns _ hall, hlen⟩

theorem post_true (l : OpenLaw) (args : List WData) : l.row.toRowW.claim.post args (.bool true) args = true :=
  postW_of (r := l.row.toRowW) (X := (true == true))
    (show WShape.has [] (.bool true) .bool = true by first | rfl | decide | simp [WShape.has, WShape.arms, WShape.armsAll])
    (show (WTm.eq .res (.lit (.bool true))).value [] { args := args, res := some (.bool true), after := args } = some (.bool (true == true)) from w_eq_bool (w_res rfl) w_lit) rfl

/-! ### the attachment: holds_open's last premise (the goal 'hc' behind k_head) from a wpAny of the law's body -/

/-- the same from a codeAny of the CALL (for a layer whose function contracts speak of calls) -/
theorem attach_call {l : OpenLaw} {n : Nat} {q : Program} {loose : List Str} {XP : (Str → Option Value) → Heap → Prop} {YP : World → Heap → Prop} {d : DefRec}
    (hn : l.most = some n) (hdf : d.params.defaults = [])
    (call : ∀ (w : World) (s₀ s₁ : Shared) (mg mb : Str → Option Value) (fa : Addr) (o : Obj) (pm cd doc : Value) (a : Addr) (vs : List Value) (ns : List Int),
      Ground q loose [] XP w s₀ mg mb s₁.heap → YP w s₁.heap →
      s₁.heap.get? fa = some o → o.data = .func (docDef d.name d.params d.body d.scope pm cd doc) → s₁.heap.CodeRec cd d.name → mg d.name = some (.ref fa) →
      s₁.heap.get? a = some { cls := .type "list", data := .seq vs.toArray } → IntsAre vs ns → ns.length ≤ n → s₁.gens = #[] →
      codeAny (model l.prog w) callerA (.call (.ref fa) ⟨[.ref a], []⟩) (fun r s' => r = .ok (.ret (.bool true)) ∧ OldK s₁.heap s'.heap ∧ s'.os = s₁.os ∧ AllBare s'.gens) s₁) :
    WalkO q loose XP YP l.row.toRowW d [] (fun f vs => PySem.call f vs) := by
  intro w s₀ s₁ mg mb G Y fa o pm cd doc dV kV ho hd hcd hD hmg hg args vals as hpre hlay hrd hwl hlo
  obtain rfl : dV = .none := Dflts.none hD hdf
  obtain rfl : kV = .none := Dflts.noKw hD
  obtain ⟨a, vs, ns, rfl, rfl, hobj, hints, hlen⟩ := script_of hn hpre hwl
  refine enter_call (codeAny_mono (call w s₀ s₁ mg mb fa o pm cd doc a vs ns G Y ho (fd_plain hd) hcd hmg hobj hints hlen hg) fun r s' hq => ?_)
  obtain ⟨rfl, h2, h3, h4⟩ := hq
  exact ⟨.inl ⟨.bool true, .bool true, [], rfl, fun _ => rfl, .bool true, post_true l _, fun _ => ⟨List.Pairwise.nil, fun _ hm => (nomatch hm)⟩⟩, h2, h3, h4⟩


/-! ### rules over ANY heap (no ledger) from facts about the written part K: the library's own take a ledger (News) for what they write -/
section
variable {prog : Program} {w : World} {A : Around} {E : Value → Shared → Prop} {s : Shared} {K : Frag}





/-! the whole heap as the ledger: makes every rule that writes through a ledger a rule over any heap -/
def noObjs (h : Heap) : Heap := { h with objs := #[] }
def ledger (h : Heap) (L d : Addr) : List (Addr × Obj) := (List.range h.objs.size).filterMap fun a => if a = L ∨ a = d then none else (h.get? a).map fun o => (a, o)

end
end Att

namespace L2
open PySem PySem.Spec PyProof.Rows

theorem vals_ints : ∀ {vs : List Value} {ns : List Int}, IntsAre vs ns → Vals (ns.map V.int) vs
  | _, _, .nil => .nil
  | _, _, .cons n t h => .cons ⟨t, rfl⟩ (vals_ints h)

/-- nothing is tracked but the script, known to the object (or it is an object of the module) -/
def Only (H : Hp) : Prop := ∀ b, H b = none ∨ ∃ o xs, H b = some (.frz o (.lst xs))

/-- THE HEAD: the law's promise, at the heap behind the top. F, the promise of the law's def, may use that base is part of the heap (so K.In base, base.Ns mainGlobals mg stand in Mod) -/
theorem law_call {P : Program} {w : World} {K : PySem.W.Frag} {mg mb : Str → Option Value} {CX : CXT} {k : Nat} {fa a : Addr} {fd : FuncData} {x : Str} {sp : Sp} {s₁ : Shared} {vs : List Value} {ns : List Int}
    (KX : K.In s₁.heap) (hns : s₁.heap.Ns mainGlobals mg) (hb : s₁.heap.Ns builtinsNs mb) (hbb : ∀ x : Str, x ≠ "__name__" → mb x = bootBuiltins x) (hlim : s₁.heap.NoLimit) (hg : s₁.gens = #[])
    (ha : s₁.heap.get? a = some { cls := .type "list", data := .seq vs.toArray }) (hi : IntsAre vs ns) (hl : ns.length ≤ sizeLine) (hr : Room k callerA)
    (F : ∀ base : Heap, K.In base → base.Ns mainGlobals mg → FnOk P w K mg base CX k fa fd [x] sp) (hbind : ∀ (s : Shared) (u : Value), BindsTo s fd ⟨[u], []⟩ [(x, u)])
    (hsp : ∀ H : Hp, Only H → SqL K H a (ns.map V.int) → sp [.ref a] H (fun v _ => v = .bl true) fun _ _ _ => False)
    (hCX : ∀ H e s', CX [] H s₁ (fun _ _ _ => False) e s' → False) :
    codeAny (model P w) callerA (.call (.ref fa) ⟨[.ref a], []⟩) (fun r s' => r = .ok (.ret (.bool true)) ∧ OldK s₁.heap s'.heap ∧ s'.os = s₁.os ∧ AllBare s'.gens) s₁ := by
  have rv := vals_ints hi
  have lenV := hi.length
  -- from an abstract heap in which nothing but the script may be tracked
  have core : ∀ H : Hp, Only H → SqL K H a (ns.map V.int) → HOk P w H s₁.heap → (∀ b, H b ≠ none → b = a) → (H a ≠ none → K.lookup a = none) →
      codeAny (model P w) callerA (.call (.ref fa) ⟨[.ref a], []⟩) (fun r s' => r = .ok (.ret (.bool true)) ∧ OldK s₁.heap s'.heap ∧ s'.os = s₁.os ∧ AllBare s'.gens) s₁ := by
    intro H hO hS hok hA hK
    have base_of : ∀ {b : Addr} {o : Obj}, s₁.heap.get? b = some o → H b = none → (hidT s₁.heap H).get? b = some o := fun e n => hidT_get e n
    have noA : ∀ {b : Addr} {o : Obj} {es : Array DictEntry} {ep : Nat}, s₁.heap.get? b = some o → o.data = .dict es ep → H b = none := fun {b o es ep} e d => by
      cases q : H b with
      | none => rfl
      | some u =>
        have e' : b = a := hA b (by rw [q]; simp)
        subst e'
        rw [ha] at e; cases e
        have d' : Data.seq vs.toArray _ = Data.dict es ep := d
        cases d'
    have nsK : ∀ {b : Addr} {m : Str → Option Value}, s₁.heap.Ns b m → (hidT s₁.heap H).Ns b m := fun {b m} ⟨o, es, ep, e, d, r⟩ => ⟨o, es, ep, base_of e (noA e d), d, r⟩
    have hKb : K.In (hidT s₁.heap H) := fun b o e => base_of (KX b o e) (by
      cases q : H b with
      | none => rfl
      | some u =>
        have e' : b = a := hA b (by rw [q]; simp)
        subst e'
        rw [hK (by rw [q]; simp)] at e; cases e)
    have hM : Mod K mg (hidT s₁.heap H) := ⟨hKb, nsK hns, ⟨mb, nsK hb, hbb⟩, let ⟨mc, h1, h2⟩ := hlim; ⟨mc, nsK h1, h2⟩⟩
    have e0 : Env0 P w K mg (hidT s₁.heap H) callerA [] s₁ H := ⟨rfl, hM, fun b o e => of_hidT e, Nat.le_of_eq (hidT_size _ _), trivial, fun b hb => absurd (show b ∈ ([] : List Addr) from hb) (by simp), hok, .of_eq hg⟩
    refine codeAny_mono ((F _ hKb (nsK hns)).run callerA [] s₁ H ⟨[.ref a], []⟩ [.ref a] [.ref a] _ _ hr e0 (hbind s₁ (.ref a)) (.cons rfl .nil) (hsp H hO hS)) fun r s' h => ?_
    cases r with
    | error e => exact (hCX H e s' h).elim
    | ok fl =>
      cases fl with
      | next => exact False.elim h
      | brk => exact False.elim h
      | cont => exact False.elim h
      | ret u =>
        obtain ⟨v, H', os, bare, un, hok', r', q⟩ := h
        have q' : v = .bl true := q
        subst q'
        obtain rfl : u = Value.bool true := r'
        refine ⟨rfl, OldK.of_keep fun b o e => ?_, os, bare⟩
        cases q : H b with
        | none => exact un.keep b o e q (by intro z; exact absurd (show b ∈ ([] : List Addr) from z) (by simp)) (by simp)
        | some u =>
          rcases hO b with z | ⟨ob, xs, z⟩
          · rw [q] at z; cases z
          · have z2 := un.frzs b ob _ z
            obtain ⟨e1, _⟩ := hok b _ z
            obtain ⟨e2, _⟩ := hok' b _ z2
            rw [e] at e1; cases e1
            exact e2
  cases hk : K.lookup a with
  | some o =>
    -- the script is one of the module's own objects
    have e := KX a o hk
    rw [ha] at e
    cases e
    refine core (fun _ => none) (fun _ => .inl rfl) (.inr ⟨_, vs.toArray, _, hk, rfl, rfl, rfl, by rw [List.size_toArray, lenV]; exact hl, by simpa using rv⟩) (fun b u z => by have z' : (none : Option HO) = some u := z; cases z') (fun b z => absurd rfl z) fun z => absurd rfl z
  | none =>
    refine core (fun b => if b = a then some (.frz { cls := .type "list", data := .seq vs.toArray } (.lst (ns.map V.int))) else none) (fun b => ?_) (.inl (.inr ⟨{ cls := .type "list", data := .seq vs.toArray }, if_pos rfl⟩)) (fun b u z => ?_) (fun b z => ?_) fun _ => hk
    · by_cases hb : b = a
      · exact .inr ⟨_, _, if_pos hb⟩
      · exact .inl (if_neg hb)
    · by_cases hb : b = a
      · have z' := (if_pos hb).symm.trans z
        cases z'
        subst hb
        exact ⟨ha, by rw [List.length_map]; exact hl, vs, _, rv, ha⟩
      · have z' := (if_neg hb).symm.trans z
        cases z'
    · by_cases hb : b = a
      · exact hb
      · exact absurd (if_neg hb) z
end L2

namespace L2
open PySem PySem.Spec PyProof.Rows

abbrev KOf {K : PySem.W.Frag} {h : Heap} (_ : K.In h) : PySem.W.Frag := K

/-- the goal that k_head leaves (case hc), from the law's promise. F gives the function object fd (K's own) once, then the promise over every base -/
theorem walk_of {l : PySem.W.OpenLaw} {n k : Nat} {q : Program} {loose : List Str} {XP : (Str → Option Value) → Heap → Prop} {YP : World → Heap → Prop} {d : DefRec} {K : Params → PySem.W.Frag} {CX : World → CXT} {sp : World → Sp} {x : Str}
    (hn : l.most = some n) (hn2 : n ≤ sizeLine) (hdf : d.params.defaults = []) (hr : Room k callerA)
    (hY : ∀ (w : World) (h : Heap), YP w h → (K w.params).In h)
    (F : ∀ (w : World) (mg : Str → Option Value) (fa : Addr) (h : Heap), (K w.params).In h → h.Ns mainGlobals mg → mg d.name = some (.ref fa) →
      ∃ fd : FuncData, (∀ (s : Shared) (u : Value), BindsTo s fd ⟨[u], []⟩ [(x, u)]) ∧
        ∀ base : Heap, (K w.params).In base → base.Ns mainGlobals mg → FnOk l.prog w (K w.params) mg base (CX w) k fa fd [x] (sp w))
    (hsp : ∀ (w : World) (H : Hp) (a : Addr) (ns : List Int), ns.length ≤ n → Only H → SqL (K w.params) H a (ns.map V.int) → sp w [.ref a] H (fun v _ => v = .bl true) fun _ _ _ => False)
    (hCX : ∀ (w : World) (H : Hp) (s : Shared) (e : Value) (s' : Shared), CX w [] H s (fun _ _ _ => False) e s' → False) :
    PySem.W.WalkO q loose XP YP l.row.toRowW d [] (fun f vs => PySem.call f vs) := by
  refine Att.attach_call hn hdf fun w s₀ s₁ mg mb fa o pm cd doc a vs ns G Y ho hd hcd hmg hobj hints hlen hg => ?_
  have KX := hY w _ Y
  obtain ⟨fd, hb, hF⟩ := F w mg fa _ KX G.T.g hmg
  exact law_call KX G.T.g G.T.b G.T.builtins G.T.nolimit hg hobj hints (Nat.le_trans hlen hn2) hr hF hb (fun H hO hS => hsp w H a ns hlen hO hS) fun H e s' => hCX w H s₁ e s'
/-- the same where the promise hangs on the written part alone: (sp := My.sp_law), no hole under a binder -/
theorem walk_ofK {l : PySem.W.OpenLaw} {n k : Nat} {q : Program} {loose : List Str} {XP : (Str → Option Value) → Heap → Prop} {YP : World → Heap → Prop} {d : DefRec} {K : Params → PySem.W.Frag} {CX : CXT} {sp : PySem.W.Frag → Sp} {x : Str}
    (hn : l.most = some n) (hn2 : n ≤ sizeLine) (hdf : d.params.defaults = []) (hr : Room k callerA)
    (hY : ∀ (w : World) (h : Heap), YP w h → (K w.params).In h)
    (F : ∀ (w : World) (mg : Str → Option Value) (fa : Addr) (h : Heap), (K w.params).In h → h.Ns mainGlobals mg → mg d.name = some (.ref fa) →
      ∃ fd : FuncData, (∀ (s : Shared) (u : Value), BindsTo s fd ⟨[u], []⟩ [(x, u)]) ∧
        ∀ base : Heap, (K w.params).In base → base.Ns mainGlobals mg → FnOk l.prog w (K w.params) mg base CX k fa fd [x] (sp (K w.params)))
    (hsp : ∀ (K : PySem.W.Frag) (H : Hp) (a : Addr) (ns : List Int), ns.length ≤ n → Only H → SqL K H a (ns.map V.int) → sp K [.ref a] H (fun v _ => v = .bl true) fun _ _ _ => False)
    (hCX : ∀ (H : Hp) (s : Shared) (e : Value) (s' : Shared), CX [] H s (fun _ _ _ => False) e s' → False) :
    PySem.W.WalkO q loose XP YP l.row.toRowW d [] (fun f vs => PySem.call f vs) :=
  walk_of (K := K) (CX := fun _ => CX) (sp := fun w => sp (K w.params)) hn hn2 hdf hr hY F (fun w H a ns h1 h2 h3 => hsp (K w.params) H a ns h1 h2 h3) fun _ H s e s' => hCX H s e s'
end L2

/- THE LAST THEOREM (shape; LID, My.* are yours):
   My.Adr: a structure of the addresses that your layer names (classes, functions); My.Txt K t: a structure (Prop) of the equations over K;
   My.txt_mk : {K} {implicit addresses ..} (e1 : nsIn K mainGlobals "law" = some (some (.ref f))) (e2 : K.lookup f = some ⟨oc, od, .func (fnOf "law" "law" params body scope dV kV doc pm an cdv ct), sl⟩) (e3 : codeIn K cdv "law" = true) .. : ∃ t, My.Txt K t

set_option maxRecDepth 100000 in
set_option maxHeartbeats 0 in
theorem PySem.Challenge.cw_LID_holds : PySem.Challenge.rw_LID.Holds := by
  w_on; o_law; k_head; (case hw => w_witness2)
  k_fill
  refine L2.walk_of (l := PySem.Challenge.rw_LID) (n := 63) (k := 40) (x := "script") (CX := fun w => ..) (sp := fun _ => My.sp_law) rfl (by decide) rfl ⟨rfl, by decide, by decide⟩ (fun w h Y => PySem.W.kIn_of Y) ?F ?S ?C
  case F =>
    intro w mg fa h KX G hmg
    have T : ∃ t, My.Txt (L2.KOf KX) t := by
      dsimp only [L2.KOf]                          -- K must stand as «<heap const> w.params» for k_is
      refine' My.txt_mk ?e1 ?e2 ?e3 ..
      (case e1 => PySem.W.k_is)                    -- in the order: a name -> its address -> its object -> its parts
      (case e2 => PySem.W.k_is)
      ..
    obtain ⟨t, T⟩ := T
    have e0 := hmg.symm.trans (PySem.W.mg_of KX G T.law)
    cases e0                                       -- fa is the law's own address
    exact ⟨_, fun s u => .of_eq rfl, fun base kb nb => My.law_fn T kb nb⟩     -- if «.of_eq rfl» comes too early: refine' ⟨_, ?b, fun base kb nb => My.law_fn T kb nb⟩; exact fun s u => .of_eq rfl
  case S => exact fun w H a ns hl hO hS => ..
  case C => exact ..
(the tactic k_is has no namespace: write k_is) -/

/-! SHORT WORDS over the layer: a def of the text, its body, what a loop and a test want. -/
namespace L2
open PySem PySem.Spec PyProof.Rows

/-! ### the text by places -/
/-- the j-th statement of a class's body -/
def inClass (s : Stmt) (j : Nat) : Stmt := match s with
  | .ClassDef _ _ _ body _ _ _ _ _ _ _ => body.getD j (.Pass ⟨0, 0, 0, 0⟩)
  | _ => .Pass ⟨0, 0, 0, 0⟩
def defArgs (s : Stmt) : Arguments := match s with
  | .FunctionDef _ a _ _ _ _ _ _ _ _ => a
  | _ => { posonlyargs := [], args := [], vararg := none, kwonlyargs := [], kw_defaults := [], kwarg := none, defaults := [] }
def defBody (s : Stmt) : List Stmt := match s with
  | .FunctionDef _ _ b _ _ _ _ _ _ _ => b
  | _ => []
def defScope (s : Stmt) : Scope := match s with
  | .FunctionDef _ _ _ _ _ _ sc _ _ _ => sc
  | _ => { kind := .function, names := [], isGenerator := false, isCoroutine := false }

/-! ### no exception leaves a def -/
abbrev CX0 : CXT := fun _ _ _ _ _ _ => False
abbrev E0 : XK := fun _ _ _ => False
theorem pass0 {X : Cx} : Passes CX0 X E0 := fun _ _ _ _ _ _ _ h => h.elim

/-! ### a def (or method) of the text as it stands behind the top -/
structure Fun (K : PySem.W.Frag) (x qual : Str) (st : Stmt) (f : Addr) (fd : FuncData) : Prop where
  ex : ∃ (oc : Value) (od : Option Addr) (kV doc pm : Value) (an : Option Addr) (cdv ct : Value) (osl : Array (Option Value)),
    fd = PySem.W.fnOf x qual (defArgs st) (defBody st) (defScope st) .none kV doc pm an cdv ct ∧ K.lookup f = some ⟨oc, od, .func fd, osl⟩ ∧ PySem.W.codeIn K cdv qual = true
  kp : PySem.W.keepIn K (.ref f) = true
section
variable {P : Program} {w : World} {K : PySem.W.Frag} {mg : Str → Option Value} {base : Heap}
/-- THE RULE for a def: its body as a term of rules, and the reading of that term -/
theorem Fun.ok {x qual : Str} {st : Stmt} {f : Addr} {fd : FuncData} {N ps : List Str} {k : Nat} {sp : Sp} (F : Fun K x qual st f fd) (S : FnScope N ps (defScope st)) (len : ∀ vs H Q E, sp vs H Q E → vs.length = ps.length)
    (hbody : ∀ (cdv : Value) (A : Around) (outer : List Env) (s : Shared) (H : Hp) (vs : List V) (Q : VK) (E : XK), Room k (A.deeper (envOfC qual (defScope st) s.heap.objs.size f cdv)) → sp vs H Q E →
      ∃ t, PSs (cxOf CX0 P w K mg base N qual (defScope st) f cdv A outer s H E).nox (defBody st) t ∧ t { nx := fun _ H' => Q .non H', rt := Q } (start N vs) H) : FnOk P w K mg base CX0 (k + 1) f fd ps sp := by
  obtain ⟨oc, od, kV, doc, pm, an, cdv, ct, osl, rfl, lk, hcd⟩ := F.ex
  refine fn_of lk hcd S len fun A outer s H vs Q E hr hsp => ?_
  obtain ⟨t, h, q⟩ := hbody cdv A outer s H vs Q E hr hsp
  exact ⟨t, h.nox, q⟩
/-- how its arguments bind (no defaults): h is «fun _ _ _ _ _ _ us hl => match us, hl with | [_, _], _ => rfl», one _ a parameter -/
theorem Fun.binds {x qual : Str} {st : Stmt} {f : Addr} {fd : FuncData} {ps : List Str} (F : Fun K x qual st f fd)
    (h : ∀ (kV doc pm : Value) (an : Option Addr) (cdv ct : Value) (us : List Value), us.length = ps.length → bindArgs (PySem.W.fnOf x qual (defArgs st) (defBody st) (defScope st) .none kV doc pm an cdv ct) ⟨us, []⟩ = pure (ps.zip us)) : Binds K fd ps [] := by
  obtain ⟨oc, od, kV, doc, pm, an, cdv, ct, osl, rfl, lk, hcd⟩ := F.ex
  exact .all (h kV doc pm an cdv ct)
theorem fun_mk {x qual : Str} {st : Stmt} {f : Addr} {oc : Value} {od an : Option Addr} {osl : Array (Option Value)} {kV doc pm cdv ct : Value} (l : K.lookup f = some ⟨oc, od, .func (PySem.W.fnOf x qual (defArgs st) (defBody st) (defScope st) .none kV doc pm an cdv ct), osl⟩)
    (c : PySem.W.codeIn K cdv qual = true) (k : PySem.W.keepIn K (.ref f) = true) : Fun K x qual st f (PySem.W.fnOf x qual (defArgs st) (defBody st) (defScope st) .none kV doc pm an cdv ct) := ⟨⟨oc, od, kV, doc, pm, an, cdv, ct, osl, rfl, l, c⟩, k⟩
end
theorem hu_of {A : Around} {k : Nat} (hr : Room k A) : A.units + 1 < cLine := Nat.lt_of_le_of_lt (Nat.add_le_add_left (by decide : 1 ≤ 64) _) hr.units
theorem small1000 {n : Nat} (h : n ≤ 1000) : n < sizeLine := Nat.lt_of_le_of_lt h (by decide)

/-! ### expressions in short: the name that stands in the i-th slot -/
section
variable {X : Cx}
theorem pv (i : Nat) {x : Str} {pos : Pos} (hN : X.N[i]? = some x := by rfl) (hv : Vis X.env.scope x := by first | exact Or.inl rfl | exact Or.inr (Or.inl rfl) | exact Or.inr (Or.inr rfl)) (hd : (x == ("__debug__" : Str)) = false := by decide)
    (hcd : (x == ("__classdict__" : Str)) = false := by decide) : PE X (.Name x pos) (tVar i) := pe_var hN hv hd hcd
end

/-! ### tests -/
theorem iteF {A B : Prop} (h : B) : if false = true then A else B := by
  rw [if_neg Bool.false_ne_true]
  exact h
theorem iteT {A B : Prop} (h : A) : if true = true then A else B := by
  rw [if_pos rfl]
  exact h

/-! ### heaps -/
/-- all that was tracked is as it was -/
def Same (H H' : Hp) : Prop := ∀ b o, H b = some o → H' b = some o
theorem Same.refl (H : Hp) : Same H H := fun _ _ h => h
theorem Same.trans {H H1 H2 : Hp} (a : Same H H1) (b : Same H1 H2) : Same H H2 := fun c o h => b c o (a c o h)
theorem Same.free {H H' : Hp} (e : Same H H') {l : Addr} (h : H' l = Option.none) : H l = Option.none := by
  cases q : H l with
  | none => rfl
  | some o =>
    rw [e l o q] at h
    cases h
theorem Same.seq {K : PySem.W.Frag} {H H' : Hp} {a : Addr} {xs : List V} (e : Same H H') (h : SqL K H a xs) : SqL K H' a xs := by
  rcases h with (h | ⟨o, h⟩) | h
  · exact .inl (.inl (e _ _ h))
  · exact .inl (.inr ⟨o, e _ _ h⟩)
  · exact .inr h

/-! ### a dict's pairs: keys that differ -/
section
variable {κ : Type} [DecidableEq κ]
theorem valV_not {kvs : List (κ × V)} {k : κ} (h : valV kvs k = none) : ¬ k ∈ kvs.map (·.1) := by
  intro m
  obtain ⟨p, hp, e⟩ := List.mem_map.mp m
  have q : (kvs.any fun kv => decide (kv.1 = k)) = true := List.any_eq_true.mpr ⟨p, hp, decide_eq_true e⟩
  rw [valV_any, h] at q
  exact absurd q (by simp)
theorem nd_snoc : ∀ {l : List κ} {k : κ}, l.Nodup → ¬ k ∈ l → (l ++ [k]).Nodup
  | [], k, _, _ => by simp
  | a :: r, k, h, hk => by
    obtain ⟨h1, h2⟩ := List.nodup_cons.mp h
    show (a :: (r ++ [k])).Nodup
    refine List.nodup_cons.mpr ⟨fun m => ?_, nd_snoc h2 fun m => hk (List.mem_cons.mpr (Or.inr m))⟩
    rcases List.mem_append.mp m with q | q
    · exact h1 q
    · exact hk (List.mem_cons.mpr (Or.inl (List.mem_singleton.mp q).symm))
end
end L2

set_option Elab.async false
set_option linter.all false
set_option maxRecDepth 100000
/-! COMPREHENSIONS over the hand layer (own work) -/
namespace L2
open PySem PySem.Spec PyProof.Rows

/-- the context of a comprehension's block -/
def Cx.inC (X : Cx) (sc : Scope) (cl : List (Str × Addr)) (C : Addr) (N' : List Str) (ex : List Addr) (s : Shared) (H : Hp) : Cx where
  prog := X.prog
  w := X.w
  K := X.K
  mg := X.mg
  base := X.base
  A := X.A
  N := N'
  s₀ := s
  H₀ := H
  env := compEnvC sc cl C X.env
  outer := X.stack
  stack := X.stack
  ex := ex
  fn := fun _ => false
  calm := X.calm
  pn := []
  xe := fun _ _ => False

theorem closure_go (env : Env) : ∀ (names : List (Str × NameKind)) (cs : List (Str × Addr)), (∀ x, (x, NameKind.free) ∈ names → ∃ c, env.cells.lookup x = some c) →
    (∀ x c, cs.lookup x = some c → env.cells.lookup x = some c) →
    ∃ cl : List (Str × Addr), (forIn names cs fun (p : Str × NameKind) (r : List (Str × Addr)) => if (p.2 == NameKind.free) = true then do let c ← cellOf env p.1; pure (ForInStep.yield ((p.1, c) :: r)) else pure (ForInStep.yield r) : Sem _) = pure cl ∧
      (∀ x c, cl.lookup x = some c → env.cells.lookup x = some c) ∧ (∀ x, (x, NameKind.free) ∈ names → ∃ c, cl.lookup x = some c) ∧ (∀ x c, cs.lookup x = some c → ∃ c', cl.lookup x = some c')
  | [], cs, _, h => ⟨cs, by simp only [List.forIn_nil], h, fun x hx => absurd hx (by simp), fun x c e => ⟨c, e⟩⟩
  | (n, k) :: r, cs, hf, h => by
    by_cases hk : k = NameKind.free
    · subst hk
      obtain ⟨c, hc⟩ := hf n List.mem_cons_self
      have hco : cellOf env n = pure c := by unfold cellOf; rw [hc]
      obtain ⟨cl, e, h1, h2, h3⟩ := closure_go env r ((n, c) :: cs) (fun x hx => hf x (List.mem_cons_of_mem _ hx)) (fun x c' e => by
        rw [List.lookup_cons] at e
        cases hx : x == n with
        | true => rw [hx] at e; cases e; rw [beq_iff_eq.mp hx]; exact hc
        | false => rw [hx] at e; exact h x c' e)
      refine ⟨cl, ?_, h1, fun x hx => ?_, fun x c' e' => ?_⟩
      · rw [List.forIn_cons]
        simp only [hco, beq_self_eq_true, if_true, pure_bind]
        exact e
      · rcases List.mem_cons.mp hx with z | z
        · cases z
          exact h3 n c (by rw [List.lookup_cons, beq_self_eq_true])
        · exact h2 x z
      · refine h3 x (if x == n then c else c') ?_
        rw [List.lookup_cons]
        cases hx : x == n with
        | true => simp
        | false => simpa using e'
    · obtain ⟨cl, e, h1, h2, h3⟩ := closure_go env r cs (fun x hx => hf x (List.mem_cons_of_mem _ hx)) h
      refine ⟨cl, ?_, h1, fun x hx => ?_, h3⟩
      · rw [List.forIn_cons]
        have hb : (k == NameKind.free) = false := by simpa using hk
        simp only [hb, Bool.false_eq_true, if_false, pure_bind]
        exact e
      · rcases List.mem_cons.mp hx with z | z
        · cases z; exact absurd rfl hk
        · exact h2 x z

theorem closure_ok {sc : Scope} {env : Env} (hf : ∀ x, (x, NameKind.free) ∈ sc.names → ∃ c, env.cells.lookup x = some c) :
    ∃ cl : List (Str × Addr), closureFor sc env = pure cl ∧ (∀ x c, cl.lookup x = some c → env.cells.lookup x = some c) ∧ (∀ x, (x, NameKind.free) ∈ sc.names → ∃ c, cl.lookup x = some c) := by
  obtain ⟨cl, e, h1, h2, _⟩ := closure_go env sc.names [] hf (fun x c e => by cases e)
  refine ⟨cl, ?_, h1, h2⟩
  unfold closureFor
  simp only [bind_pure]
  exact e

/-- the tests of a clause -/
def PIf (X : Cx) (ifs : List Expr) (t : TT) : Prop :=
  ∀ (pins : List (Addr × Obj)) (s : Shared) (σ : St) (H : Hp) (Q : Bool → Hp → Prop), Inv X pins σ H s → t σ H Q →
    wpAny (model X.prog X.w) X.A (forIn ifs true fun c r => if r = true then do let ok ← isTrue c X.env (eval c X.env); pure (ForInStep.yield ok) else pure (ForInStep.yield r)) (TP X pins σ Q) X.xe s
def tYes : TT := fun _ H Q => Q true H
theorem pif_nil {X : Cx} : PIf X [] tYes := fun _ _ _ H _ I h => wpAny_tests_nil ⟨H, I, h⟩
theorem pif_one {X : Cx} {c : Expr} {t : TT} (h : PT X c t) : PIf X [c] t := fun pins s σ H Q I hw => wpAny_tests_one (h pins s σ H Q I hw)

/-- the slots of a block: its own names, then the captured ones -/
def σC (n : Nat) (cap : List Nat) (σ : St) : St := List.replicate n none ++ cap.map fun j => (σ[j]?).join
def NC (X : Cx) (own : List Str) (cap : List Nat) : List Str := own ++ cap.map fun j => X.N.getD j Str.empty
/-- what is captured -/
def Caps (X : Cx) (sc : Scope) : List Nat → Prop
  | [] => True
  | j :: r => (∃ x, X.N[j]? = some x ∧ sc.names.lookup x = some .free ∧ (X.env.kindOf x = some .cell ∨ X.env.kindOf x = some .free)) ∧ Caps X sc r
theorem Caps.mem {X : Cx} {sc : Scope} : ∀ {cap : List Nat} {j : Nat}, Caps X sc cap → j ∈ cap → ∃ x, X.N[j]? = some x ∧ sc.names.lookup x = some .free ∧ (X.env.kindOf x = some .cell ∨ X.env.kindOf x = some .free)
  | [], _, _, h => absurd h (by simp)
  | _ :: _, _, c, h => (List.mem_cons.mp h).elim (fun e => e ▸ c.1) fun h' => c.2.mem h'

theorem lookup_mem {α β : Type} [BEq α] [LawfulBEq α] : ∀ {l : List (α × β)} {x : α} {b : β}, l.lookup x = some b → (x, b) ∈ l
  | [], _, _, h => by cases h
  | (y, c) :: r, x, b, h => by
    rw [List.lookup_cons] at h
    cases e : x == y with
    | true => rw [e] at h; cases h; rw [beq_iff_eq.mp e]; exact List.mem_cons_self
    | false => rw [e] at h; exact List.mem_cons_of_mem _ (lookup_mem h)

theorem lookup_mapk (f : Str × NameKind → Str × NameKind) (hf : ∀ p, (f p).1 = p.1) (x : Str) : ∀ (names : List (Str × NameKind)), (names.map f).lookup x = (names.lookup x).map fun k => (f (x, k)).2
  | [] => rfl
  | (n, k) :: r => by
    have ih := lookup_mapk f hf x r
    rw [List.map_cons, List.lookup_cons]
    obtain ⟨a, b, e⟩ : ∃ a b, f (n, k) = (a, b) := ⟨_, _, rfl⟩
    have ea : a = n := by have := hf (n, k); rw [e] at this; exact this
    subst ea
    rw [e, List.lookup_cons]
    cases hx : x == a with
    | true =>
      have hx' := beq_iff_eq.mp hx
      subst hx'
      simp [e]
    | false => simpa using ih
/-- relabelled names: of a free one cell or free; no others become so -/
theorem relabel_lookup {env : Env} {sc : Scope} {x : Str} {k : NameKind} (h : (relabel sc env).names.lookup x = some k) : (sc.names.lookup x = some k) ∨ (k = .cell ∧ sc.names.lookup x = some .free) := by
  unfold relabel at h
  rw [lookup_mapk _ (fun p => by obtain ⟨n, k⟩ := p; dsimp only; split <;> rfl)] at h
  cases e : sc.names.lookup x with
  | none => rw [e] at h; cases h
  | some k0 =>
    rw [e] at h
    simp only [Option.map_some, Option.some.injEq] at h
    split at h
    · rename_i hc
      simp at hc
      right
      exact ⟨h.symm, by rw [hc.1.1]⟩
    · left; exact congrArg some h
theorem relabel_free {env : Env} {sc : Scope} {x : Str} (h : sc.names.lookup x = some .free) : (relabel sc env).names.lookup x = some .cell ∨ (relabel sc env).names.lookup x = some .free := by
  unfold relabel
  rw [lookup_mapk _ (fun p => by obtain ⟨n, k⟩ := p; dsimp only; split <;> rfl), h]
  simp only [Option.map_some]
  split
  · exact .inl rfl
  · exact .inr rfl

section
variable {prog : Program} {w : World} {A : Around} {R : Result → Shared → Prop} {s : Shared}
/-- the loop, a target of any kind, no exception -/
theorem comp_loop {elt target iter : Expr} {ifs : List Expr} {scope : Scope} {pos : Pos} {it acc : Value} {env : Env} (I : Nat → Shared → Prop)
    (turn : ∀ n s, I n s → wpAny (model prog w) A (pyNext it) (fun r s₁ => match r with
      | none => R (.ok .next) s₁
      | some v => wpAny (model prog w) A (letOwnedTupleGo target it v) (fun _ s₀ => wpAny (model prog w) A (assign target env v) (fun _ s₂ =>
          wpAny (model prog w) A (forIn ifs true fun c r => if r = true then do let ok ← isTrue c env (eval c env); pure (ForInStep.yield ok) else pure (ForInStep.yield r)) (fun ok s₃ =>
            if ok = true then wpAny (model prog w) A (eval elt env) (fun x s₄ =>
              wpAny (model prog w) A (call (.builtin "list.append") [acc, x]) (fun _ s₅ => ∃ m, m < n ∧ I m s₅) (fun _ _ => False) s₄) (fun _ _ => False) s₃
            else ∃ m, m < n ∧ I m s₃) (fun _ _ => False) s₂) (fun _ _ => False) s₀) (fun _ _ => False) s₁) (fun _ _ => False) s)
    (n : Nat) (h : I n s) :
    codeAny (model prog w) A (.compLoop (.ListComp elt [⟨target, iter, ifs, 0⟩] scope pos) 0 it acc env) R s := by
  refine codeAny_loop rfl I (fun n s hI => ?_) n h
  show wpAny _ A ((compTurn (.ListComp elt [⟨target, iter, ifs, 0⟩] scope pos) 0 it acc env).onRaise (fun x => do noteFrame x env; theTreesLotGoes x)) _ _ s
  refine wpAny_noted ?_
  rw [compTurn_list]
  refine wpAny_bind (wpAny_standAt (wpAny_bind (wpAny_mono (turn n s hI) (fun r s₁ h₁ => ?_) fun _ _ h' => h'.elim)))
  cases r with
  | none => exact wpAny_pure h₁
  | some v =>
    refine wpAny_bind (wpAny_mono h₁ (fun _ s₀ h₀ => ?_) fun _ _ h' => h'.elim)
    refine wpAny_bind (wpAny_mono h₀ (fun _ s₂ h₂ => wpAny_bind (wpAny_mono h₂ (fun ok s₃ h₃ => ?_) fun _ _ h' => h'.elim)) fun _ _ h' => h'.elim)
    cases ok with
    | false => exact wpAny_pure ⟨rfl, h₃⟩
    | true =>
      exact wpAny_bind (wpAny_bind (wpAny_mono h₃ (fun x s₄ h₄ => wpAny_bind (wpAny_mono h₄ (fun _ s₅ h₅ => wpAny_pure (wpAny_pure ⟨rfl, h₅⟩)) fun _ _ h' => h'.elim)) fun _ _ h' => h'.elim))
end
end L2

set_option Elab.async false
set_option linter.all false
set_option maxRecDepth 100000
namespace L2
open PySem PySem.Spec PyProof.Rows

/-- a comprehension's condition, from its iterator on -/
def CompVC (J : It) (g : TG) (tt : TT) (te : TE) (σ' : St) (Post : VK) (H1 : Hp) : Prop := ∃ W : Nat → Nat → List V → Hp → Prop, (∃ m, W 0 m [] H1) ∧ ∀ i m ys H, W i m ys H → ys.length < sizeLine ∧
   ((J.stop i H ∧ ∀ p, H p = none → Post (.ref p) (upd H p (.lst ys))) ∨
    (J.go i H ∧ ∀ x H', J.yld i H x H' → g x σ' H' fun σ2 H2 => tt σ2 H2 fun b H3 => if b = true then te σ2 H3 fun y H4 => ∃ m', m' < m ∧ W (i + 1) m' (ys ++ [y]) H4 else ∃ m', m' < m ∧ W (i + 1) m' ys H3))
def tComp (n : Nat) (cap : List Nat) (wi : TI) (g : TG) (tt : TT) (te : TE) : TE := fun σ H Q => wi σ H fun J H1 => CompVC J g tt te (σC n cap σ) Q H1

theorem notfp {h : Heap} {b : Addr} {n : Nat} (e : n ≤ b) {o : Obj} (q : h.get? b = some o) (hn : h.objs.size ≤ n) : False := absurd (Nat.lt_of_lt_of_le (Heap.lt_size q) (Nat.le_trans hn e)) (Nat.lt_irrefl _)

section
variable {X : Cx} {pins : List (Addr × Obj)} {σ : St} {H2 : Hp} {s2 : Shared} {sc : Scope} {cl : List (Str × Addr)} {own : List Str} {cap : List Nat} {fp : List Addr}
/-- the block's context is well made -/
theorem Inv.inC {h₁ : Heap} {tk : Nat} {C : Addr} (I : Inv X pins σ H2 s2) (hkind : sc.kind = .function) (hcl1 : ∀ x c, cl.lookup x = some c → X.env.cells.lookup x = some c) (hcl2 : ∀ x, (x, NameKind.free) ∈ sc.names → ∃ c, cl.lookup x = some c)
    (hcell : ∀ y ∈ sc.names, y.2 ≠ .cell) (hcap : Caps X sc cap) (hC : s2.heap.objs.size ≤ C) (hfp : ∀ b ∈ fp, FpOk X pins H2 b) (hfo : ∀ b ∈ fp, ∃ o, s2.heap.get? b = some o) {m : Str → Option Value} (hns : h₁.Ns C m)
    (old : ∀ b o, s2.heap.get? b = some o → h₁.get? b = some o) : Inv (X.inC sc cl C (NC X own cap) fp s2 H2) [] (σC own.length cap σ) H2 { s2 with heap := h₁, toks := tk } := by
  have hlt : ∀ {b : Addr} {o : Obj}, s2.heap.get? b = some o → b ≠ C := fun e => Nat.ne_of_lt (Nat.lt_of_lt_of_le (Heap.lt_size e) hC)
  have mem : ∀ {x : Str} {k : NameKind}, sc.names.lookup x = some k → (x, k) ∈ sc.names := fun e => lookup_mem e
  refine ⟨⟨I.ok.mod, hkind, I.ok.glob, I.ok.blt, hC, fun x y c a b => I.ok.inj x y c (hcl1 x c a) (hcl1 y c b), fun x hx => ?_, fun x c h => (by cases h), I.ok.hd, I.ok.frames, .inl rfl, fun b hb => ⟨?_, fun x c e => ?_⟩, I.bs, Nat.le_trans I.ok.bsz I.sz, fun b o e hb => ?_, fun b hb => ?_, I.stack, I.stkFree⟩,
    rfl, I.bare, Un.kept old, ⟨m, hns, fun i x v e1 e2 e3 => ?_⟩, fun x c e => ?_, I.hok.fresh hC, fun x c e => I.freeC x c (hcl1 x c e), fun p hp => absurd (show p ∈ ([] : List (Addr × Obj)) from hp) (by simp), I.hok.kept old, ?_⟩
  · have hx : (relabel sc X.env).names.lookup x = some .cell ∨ (relabel sc X.env).names.lookup x = some .free := hx
    refine hcl2 x ?_
    rcases hx with hx | hx
    · rcases relabel_lookup hx with q | ⟨_, q⟩
      · exact absurd rfl (hcell _ (mem q))
      · exact mem q
    · rcases relabel_lookup hx with q | ⟨q, _⟩
      · exact mem q
      · cases q
  · obtain ⟨o, e⟩ := hfo b hb
    exact hlt e
  · exact (hfp b hb).2.2.2.2.1 x c (hcl1 x c e)
  · obtain ⟨_, _, _, h4, _⟩ := hfp b hb
    rcases h4 with h4 | h4
    · exact I.ok.noex b o e h4
    · exact notfp h4 e (I.ok.bsz)
  · show b ∉ frs X.stack
    intro z
    rcases List.mem_cons.mp (I.stkSub b z) with q | q
    · exact (hfp b hb).2.1 q
    · exact (hfp b hb).2.2.1 q
  · have e1 : (NC X own cap)[i]? = some x := e1
    unfold σC at e2
    unfold NC at e1
    by_cases hi : i < own.length
    · rw [List.getElem?_append_left (by simpa using hi), List.getElem?_replicate] at e2
      split at e2 <;> cases e2
    · rw [List.getElem?_append_right (by simpa using hi), List.length_replicate, List.getElem?_map] at e2
      rw [List.getElem?_append_right (by simpa using hi), List.getElem?_map] at e1
      cases ej : cap[i - own.length]? with
      | none => rw [ej] at e2; cases e2
      | some j =>
        rw [ej] at e1 e2
        simp only [Option.map_some, Option.some.injEq] at e1 e2
        obtain ⟨y, hy, hfr, hk⟩ := hcap.mem (List.mem_of_getElem? ej)
        have exy : x = y := by rw [← e1, List.getD_eq_getElem?_getD, hy]; rfl
        subst exy
        have e2' : σ[j]? = some (some v) := by
          cases q : σ[j]? with
          | none => rw [q] at e2; cases e2
          | some o => rw [q] at e2; exact congrArg some e2
        have hvis : Vis X.env.scope x := by
          rcases hk with hk | hk
          · exact .inr (.inl hk)
          · exact .inr (.inr hk)
        obtain ⟨m0, hn0, hl0⟩ := I.loc
        obtain ⟨u, r, l⟩ := hl0 j x v hy e2' hvis
        refine ⟨u, r, .inr ⟨relabel_free hfr, ?_⟩⟩
        rcases l with ⟨q, _⟩ | ⟨_, c, ec, z⟩
        · rcases hk with hk | hk <;> (rw [hk] at q; cases q)
        · obtain ⟨c', ec'⟩ := hcl2 x (mem hfr)
          have : c' = c := by have := hcl1 x c' ec'; rw [ec] at this; exact (Option.some.inj this).symm
          subst this
          obtain ⟨oc, hoc, hd⟩ := z
          exact ⟨c', ec', oc, old c' oc hoc, hd⟩
  · obtain ⟨v, oc, hoc, hd⟩ := I.cell x c (hcl1 x c e)
    exact ⟨v, oc, old c oc hoc, hd⟩
  · unfold σC NC Cx.inC
    simp

/-- back from the block -/
theorem Inv.outC {s' : Shared} {H3 : Hp} {C D : Addr} {N' : List Str} {σ' : St} {pins' : List (Addr × Obj)} {ys : List V} {its : List Value} {n : Nat} (I : Inv X pins σ H2 s2) (hfp : ∀ b ∈ fp, FpOk X pins H2 b) (hD : s2.heap.objs.size ≤ D)
    (I4 : Inv (X.inC sc cl C N' fp s2 H2) pins' σ' H3 s') (hl : s'.heap.get? D = some { cls := .type "list", data := .seq its.toArray n }) (hv : Vals ys its) (hz : ys.length ≤ sizeLine) (hn : H3 D = none) : Inv X pins σ (upd H3 D (.lst ys)) s' := by
  have ltD : ∀ {b : Addr} {o : Obj}, s2.heap.get? b = some o → b ≠ D := fun e => Nat.ne_of_lt (Nat.lt_of_lt_of_le (Heap.lt_size e) hD)
  have B : Un (frs X.stack) fp H2 H3 s2.heap s'.heap := I4.base
  have ne : ∀ {b : Addr} {o : HO}, H3 b = some o → b ≠ D := fun e z => by rw [z, hn] at e; cases e
  refine I.call' (ch := fp) I4.os ⟨B.keep, B.slot, fun b o e h0 hx => ?_, B.there, fun b xs e => ?_, fun b o u e => ?_, fun b ps e => ?_⟩ (fun b u e => ?_) I4.bare (fun b hb => ?_)
  · rw [upd_ne (ltD e)]; exact B.free b o e h0 hx
  · have := B.tups b xs e; rw [upd_ne (ne this)]; exact this
  · have := B.frzs b o u e; rw [upd_ne (ne this)]; exact this
  · obtain ⟨more, this⟩ := B.tbls b ps e
    exact ⟨more, by rw [upd_ne (ne this)]; exact this⟩
  · by_cases hb : b = D
    · subst hb
      rw [upd_same] at e
      cases e
      exact ⟨hz, its, n, hv, hl⟩
    · rw [upd_ne hb] at e
      exact (I4.hok b u e).stay (fun _ _ _ q => q) (fun c q => by rw [upd_ne (ne q)]; exact q) (fun c xs q => by rw [upd_ne (ne q)]; exact q)
  · obtain ⟨f0, f1, f2, f3, f4, f5⟩ := hfp b hb
    exact ⟨f3, f1, f4, f5⟩

/-- the rule's core: the loop from the iterator on -/
theorem comp_core {J : It} {it : Addr} {tn : Nat → Heap → Prop} {tg elt iter : Expr} {ifs : List Expr} {pos : Pos} {g : TG} {tt : TT} {te : TE} {RR : Value → Addr → Result → Shared → Prop} {Post : VK}
    (hc : X.calm = true) (I : Inv X pins σ H2 s2) (T : Turn X.prog X.w X.K tg J fp it tn) (st2 : tn 0 s2.heap) (f2 : ∀ b ∈ fp, FpOk X pins H2 b)
    (hkind : sc.kind = .function) (hcl1 : ∀ x c, cl.lookup x = some c → X.env.cells.lookup x = some c) (hcl2 : ∀ x, (x, NameKind.free) ∈ sc.names → ∃ c, cl.lookup x = some c) (hcell : ∀ y ∈ sc.names, y.2 ≠ .cell) (hcap : Caps X sc cap)
    (hg : ∀ cl C fp s H, PG (X.inC sc cl C (NC X own cap) fp s H) tg g) (ht : ∀ cl C fp s H, PIf (X.inC sc cl C (NC X own cap) fp s H) ifs tt) (he : ∀ cl C fp s H, PE (X.inC sc cl C (NC X own cap) fp s H) elt te)
    (hw : ∃ W : Nat → Nat → List V → Hp → Prop, (∃ m, W 0 m [] H2) ∧ ∀ i m ys H, W i m ys H → ys.length < sizeLine ∧
      ((J.stop i H ∧ ∀ p, H p = none → Post (.ref p) (upd H p (.lst ys))) ∨
      (J.go i H ∧ ∀ x H', J.yld i H x H' → g x (σC own.length cap σ) H' fun σ2 H2 => tt σ2 H2 fun b H3 => if b = true then te σ2 H3 fun y H4 => ∃ m', m' < m ∧ W (i + 1) m' (ys ++ [y]) H4 else ∃ m', m' < m ∧ W (i + 1) m' ys H3)))
    (hRR : ∀ (D C : Addr) (H' : Hp) (s' : Shared), Inv X pins σ H' s' → (∃ m, s'.heap.Ns C m) → FpOk X pins H' C → H' D ≠ none → Post (.ref D) H' → RR (.ref D) C (.ok .next) s') {E : Value → Shared → Prop} :
    wpAny (model X.prog X.w) X.A (newList []) (fun acc s₃ => wpAny (model X.prog X.w) X.A (newFunctionEnv sc X.env.globals cl [] X.env.qual none .none (some X.env)) (fun cenv s₄ =>
      codeAny (model X.prog X.w) X.A (.compStart (.ListComp elt [⟨tg, iter, ifs, 0⟩] sc pos) 0 (.ref it) acc { cenv with scope := relabel sc X.env }) (RR acc cenv.locals) s₄) E s₃) E s2 := by
  obtain ⟨W, ⟨m0, w0⟩, turn⟩ := hw
  refine wpAny_newObj_type (wpAny_newFunctionEnv hcell (by intro y hy; simp at hy) (fun h₁ hns₁ hsb₁ => ?_) hkind)
  dsimp only at hns₁ hsb₁ ⊢
  generalize hH : s2.heap.push { cls := .type "list", dict := none, data := .seq ([] : List Value).toArray } = HH at hns₁ hsb₁ ⊢
  have hC : HH.objs.size = s2.heap.objs.size + 1 := by rw [← hH, Heap.size_push]
  have hDC : s2.heap.objs.size ≠ HH.objs.size := by rw [hC]; exact Nat.ne_of_lt (Nat.lt_succ_self _)
  have hCle : s2.heap.objs.size ≤ HH.objs.size := by rw [hC]; exact Nat.le_succ _
  have old : ∀ b o, s2.heap.get? b = some o → h₁.get? b = some o := fun b o e => hsb₁.extBut b o (Nat.ne_of_lt (Nat.lt_of_lt_of_le (Heap.lt_size e) hCle)) (Heap.get?_push_of_some _ (hH ▸ Heap.get?_push_of_some _ e))
  have hacc : h₁.PlainList s2.heap.objs.size #[] := ⟨_, hsb₁.extBut _ _ hDC (Heap.get?_push_of_some _ (hH ▸ Heap.get?_push_size _ rfl))⟩
  have hfo : ∀ b ∈ fp, ∃ o, s2.heap.get? b = some o := fun b hb => let ⟨o, e, _⟩ := T.obj 0 s2.heap st2 b hb; ⟨o, e⟩
  have hst₁ : tn 0 h₁ := T.keep 0 _ _ st2 fun b _ o e => old b o e
  generalize hD : s2.heap.objs.size = D at hacc hDC hCle
  have hDle : s2.heap.objs.size ≤ D := Nat.le_of_eq hD
  have hCle2 : s2.heap.objs.size ≤ HH.objs.size := by rw [hD]; exact hCle
  -- the context
  let X' : Cx := X.inC sc cl HH.objs.size (NC X own cap) fp s2 H2
  have I₁ : Inv X' [] (σC own.length cap σ) H2 { s2 with heap := h₁, toks := s2.toks + ([] : List (Str × Value)).length } := I.inC hkind hcl1 hcl2 hcell hcap hCle2 f2 hfo hns₁ old
  have okX := I₁.ok
  have fpX : ∀ {H' : Hp} {pn : List (Addr × Obj)}, (∀ b ∈ fp, H' b = none) → (∀ p ∈ pn, p.1 = D) → ∀ b ∈ fp, FpOk X' pn H' b := fun {H' pn} hn hp b hb => by
    obtain ⟨o, e⟩ := hfo b hb
    refine ⟨hn b hb, (okX.exf b hb).1, okX.exfs b hb, .inl hb, (okX.exf b hb).2, fun p hq z => ?_⟩
    have hq : p ∈ pn := by
      rcases List.mem_append.mp hq with q | q
      · exact absurd (show p ∈ ([] : List (Addr × Obj)) from q) (by simp)
      · exact q
    rw [hp p hq] at z
    exact absurd (Nat.lt_of_lt_of_le (Heap.lt_size e) hDle) (by rw [← z]; exact Nat.lt_irrefl _)
  have pinD : ∀ {σ' : St} {H' : Hp} {s' : Shared} {oD : Obj}, Inv X' [] σ' H' s' → s'.heap.get? D = some oD → H' D = none → (∀ v, oD.data ≠ .cell v) → Inv X' [(D, oD)] σ' H' s' := fun {σ' H' s' oD} J e n d =>
    J.pins_of fun p hp => by
      have : p = (D, oD) := by simpa using hp
      subst this
      refine ⟨e, n, hDC, fun z => ?_, d⟩
      obtain ⟨_, o, ho, _⟩ := okX.funs.mem z
      exact notfp (Nat.le_refl D) ho hDle
  have loop : ∀ s₃ : Shared, s₃ = { s2 with heap := h₁, toks := s2.toks + ([] : List (Str × Value)).length } →
      codeAny (model X.prog X.w) X.A (.compLoop (.ListComp elt [⟨tg, iter, ifs, 0⟩] sc pos) 0 (.ref it) (.ref D) (compEnvC sc cl HH.objs.size X.env)) (RR (.ref D) HH.objs.size) s₃ := by
    rintro s₃ rfl
    refine comp_loop (fun n s' => ∃ i ys H' its nn, Inv X' [] (σC own.length cap σ) H' s' ∧ tn i s'.heap ∧ (∀ b ∈ fp, H' b = none) ∧ s'.heap.get? D = some { cls := .type "list", data := .seq (List.toArray its) nn } ∧ Vals ys its ∧ H' D = none ∧ W i n ys H') ?_ m0 ?_
    · rintro n s3 ⟨i, ys, H3, its, nn, I3, st3, fr3, hl3, hv3, hD3, w3⟩
      obtain ⟨hlen, tw⟩ := turn i n ys H3 w3
      have I3' := pinD I3 hl3 hD3 (fun v z => by cases z)
      have onlyD : ∀ p ∈ [(D, ({ cls := .type "list", data := .seq (List.toArray its) nn } : Obj))], p.1 = D := fun p hp => by simp at hp; rw [hp]
      rcases tw with ⟨stop, qn⟩ | ⟨go, step⟩
      · refine thn (T.done X' rfl rfl rfl hc i _ s3 _ H3 (fun _ _ => False) I3' (fpX fr3 onlyD) st3 stop) fun r s4 ⟨hr, I4⟩ => ?_
        subst hr
        have hl4 := (I4.pin (D, _) (List.mem_append_right _ List.mem_cons_self)).1
        have I5 := I.outC (fp := fp) f2 hDle I4 hl4 hv3 (Nat.le_of_lt hlen) hD3
        obtain ⟨m4, hn4, _⟩ := I4.loc
        refine hRR D HH.objs.size _ s4 I5 ⟨m4, hn4⟩ ?_ (by rw [upd_same]; simp) (qn D hD3)
        refine I.fpOk hCle2 ?_
        rw [upd_ne (Ne.symm hDC)]
        exact I4.free
      · refine thn (T.item X' rfl rfl rfl hc i _ s3 _ H3 (fun _ _ => False) I3' (fpX fr3 onlyD) st3 go) fun r s4 ⟨u, hr, h4⟩ => ?_
        subst hr
        refine thn h4 fun _ s5 ⟨x, H5, I5, r5, y5, st5, fr5⟩ => ?_
        have I5' := I5.pinned (fpX fr5 onlyD) (T.obj _ _ st5)
        refine thn (hg _ _ _ _ _ _ s5 _ H5 x u _ I5' r5 (step x H5 y5)) fun _ s6 ⟨σ6, H6, I6, q6⟩ => ?_
        refine thn (ht _ _ _ _ _ _ s6 σ6 H6 _ I6 q6) fun b s7 ⟨H7, I7, q7⟩ => ?_
        have back : ∀ {σ8 : St} {H8 : Hp} {s8 : Shared}, Inv X' ([(D, ({ cls := .type "list", data := .seq (List.toArray its) nn } : Obj))] ++ pinsAt fp s5.heap) σ8 H8 s8 →
            Inv X' [] (σC own.length cap σ) H8 s8 ∧ tn (i + 1) s8.heap ∧ (∀ b ∈ fp, H8 b = none) ∧ s8.heap.get? D = some { cls := .type "list", data := .seq (List.toArray its) nn } ∧ H8 D = none := fun {σ8 H8 s8} I8 => by
          have pD := I8.pin (D, _) (List.mem_append_right _ (List.mem_append_left _ List.mem_cons_self))
          refine ⟨?_, T.keep _ _ _ st5 fun b hb o e => (I8.pin (b, o) (List.mem_append_right _ (List.mem_append_right _ (mem_pinsAt hb e)))).1, fun b hb => ?_, pD.1, pD.2.1⟩
          · have I8' : Inv X' [] σ8 H8 s8 := I8.pins_of fun p hp => absurd hp (by simp)
            refine ⟨I8'.ok, I8'.os, I8'.bare, I8'.base, ?_, I8'.cell, I8'.free, I8'.freeC, I8'.pin, I8'.hok, I₁.len⟩
            -- the captured ones stand as at the entry: their cells are kept
            obtain ⟨m8, hn8, _⟩ := I8'.loc
            obtain ⟨m1, hn1, hl1⟩ := I₁.loc
            refine ⟨m8, hn8, fun i x v e1 e2 e3 => ?_⟩
            obtain ⟨u, ru, l⟩ := hl1 i x v e1 e2 e3
            refine ⟨u, ru, ?_⟩
            rcases l with ⟨k, e⟩ | ⟨k, c, ec, oc, hoc, hd⟩
            · exfalso
              have e1 : (NC X own cap)[i]? = some x := e1
              unfold σC at e2
              unfold NC at e1
              by_cases hi : i < own.length
              · rw [List.getElem?_append_left (by simpa using hi), List.getElem?_replicate] at e2
                split at e2 <;> cases e2
              · rw [List.getElem?_append_right (by simpa using hi), List.getElem?_map] at e1
                cases ej : cap[i - own.length]? with
                | none => rw [ej] at e1; cases e1
                | some j =>
                  rw [ej] at e1
                  simp only [Option.map_some, Option.some.injEq] at e1
                  obtain ⟨y, hy, hfr, hk⟩ := hcap.mem (List.mem_of_getElem? ej)
                  have exy : x = y := by rw [← e1, List.getD_eq_getElem?_getD, hy]; rfl
                  subst exy
                  have k : (relabel sc X.env).names.lookup x = some .local := k
                  rcases relabel_free (env := X.env) hfr with q | q <;> (rw [q] at k; cases k)
            · refine .inr ⟨k, c, ec, ?_⟩
              have ec2 := hcl1 x c ec
              have c0 : ∃ v, s2.heap.IsCell c v := I.cell x c ec2
              obtain ⟨v0, o0, ho0, hd0⟩ := c0
              have := old c o0 ho0
              rw [this] at hoc
              cases hoc
              have nfp : c ∉ fp := fun z => (f2 c z).2.2.2.2.1 x c ec2 rfl
              obtain ⟨sl, q⟩ := (show Un (frs X.stack) fp H2 H8 s2.heap s8.heap from I8'.base).any ho0 (I.freeC x c ec2) nfp
              exact ⟨_, q, hd⟩
          · obtain ⟨o, e, d⟩ := T.obj _ _ st5 b hb
            exact (I8.pin (b, o) (List.mem_append_right _ (List.mem_append_right _ (mem_pinsAt hb e)))).2.1
        cases b with
        | false =>
          rw [if_neg Bool.false_ne_true]
          rw [if_neg Bool.false_ne_true] at q7
          obtain ⟨m', hm, w7⟩ := q7
          obtain ⟨J1, J2, J3, J4, J5⟩ := back I7
          exact ⟨m', hm, i + 1, ys, H7, its, nn, J1, J2, J3, J4, hv3, J5, w7⟩
        | true =>
          rw [if_pos rfl]
          rw [if_pos rfl] at q7
          refine thn (he _ _ _ _ _ _ s7 σ6 H7 _ I7 q7) fun y s8 ⟨yv, H8, I8, r8, m', hm, w8⟩ => ?_
          obtain ⟨J1, J2, J3, J4, J5⟩ := back I8
          refine wpAny_list_append_plain (hsz := by rw [List.size_toArray, ← hv3.length]; exact Nat.le_of_lt hlen) ⟨nn, J4⟩ fun h₅ hl₅ hs₅ => ?_
          obtain ⟨n5, e5⟩ := hl₅
          have kk : ∀ b o, b ≠ D → s8.heap.get? b = some o → h₅.get? b = some o := fun b o hb e => hs₅.extBut b o hb e
          refine ⟨m', hm, i + 1, ys ++ [yv], H8, its ++ [y], n5, ?_, ?_, J3, by rw [e5]; simp, hv3.append (.cons r8 .nil), J5, w8⟩
          · exact J1.turned (t' := s8.toks) kk J5 hDC (.inr hDle) (fun x c e z => by
              obtain ⟨v0, o0, ho0, hd0⟩ := I.cell x c (hcl1 x c e)
              exact notfp (Nat.le_of_eq z.symm) ho0 hDle) (fun p hp => absurd (show p ∈ ([] : List (Addr × Obj)) from hp) (by simp))
          · refine T.keep _ _ _ J2 fun b hb o e => kk b o (fun z => ?_) e
            obtain ⟨o', e'⟩ := hfo b hb
            exact notfp (Nat.le_of_eq z.symm) e' hDle
    · exact ⟨0, [], H2, [], _, I₁, hst₁, fun b hb => (f2 b hb).1, hacc.choose_spec, .nil, I.hok.fresh hDle, w0⟩
  subst hD
  exact codeAny_compStart_list (loop _ rfl) (T.self _ 0 _ _ _ hst₁ (loop _ rfl))
end
end L2

set_option Elab.async false
set_option linter.all false
set_option maxRecDepth 100000
namespace L2
open PySem PySem.Spec PyProof.Rows
section
variable {X : Cx} {sc : Scope} {own : List Str} {cap : List Nat}
theorem free_cells {pins : List (Addr × Obj)} {σ : St} {H : Hp} {s : Shared} (I : Inv X pins σ H s) (hfr : ∀ y ∈ sc.names, y.2 = .free → X.env.kindOf y.1 = some .cell ∨ X.env.kindOf y.1 = some .free) :
    ∃ cl : List (Str × Addr), closureFor sc X.env = pure cl ∧ (∀ x c, cl.lookup x = some c → X.env.cells.lookup x = some c) ∧ (∀ x, (x, NameKind.free) ∈ sc.names → ∃ c, cl.lookup x = some c) :=
  closure_ok fun x hx => I.ok.has x (hfr _ hx rfl)

/-- [elt for tg in iter if ..] -/
theorem pe_comp {tg elt iter : Expr} {ifs : List Expr} {pos : Pos} {wi : TI} {g : TG} {tt : TT} {te : TE} (own : List Str) (cap : List Nat) (hc : X.calm = true) (hi : PI X tg iter wi)
    (hg : ∀ cl C fp s H, PG (X.inC sc cl C (NC X own cap) fp s H) tg g) (ht : ∀ cl C fp s H, PIf (X.inC sc cl C (NC X own cap) fp s H) ifs tt) (he : ∀ cl C fp s H, PE (X.inC sc cl C (NC X own cap) fp s H) elt te)
    (hcap : Caps X sc cap) (hkind : sc.kind = .function := by rfl) (hcell : ∀ y ∈ sc.names, y.2 ≠ .cell := by decide +kernel)
    (hfr : ∀ y ∈ sc.names, y.2 = .free → X.env.kindOf y.1 = some .cell ∨ X.env.kindOf y.1 = some .free := by decide +kernel)
    (hnames : ∀ x ∈ sc.names, x.2 = .local → sc.names.lookup x.1 = some .local := by decide +kernel) (hs : ∀ x, foldedSetIterable iter X.env x = pure x := by intro _; rfl) :
    PE X (.ListComp elt [⟨tg, iter, ifs, 0⟩] sc pos) (tComp own.length cap wi g tt te) := by
  intro pins s σ H Q I h
  obtain ⟨cl, hclos, hcl1, hcl2⟩ := free_cells I hfr
  rw [eval_ListComp]
  refine wpAny_comprehension_free (use := none) rfl hs hclos hkind hnames (thn (hi pins s σ H _ I h) fun v s1 h1 => thn h1 fun itv s2 h2 => ?_)
  obtain ⟨it, fp, tn, J, H2, e, I2, T, st2, f2, hw⟩ := h2
  subst e
  refine comp_core (RR := fun acc C => compPost (model X.prog X.w) X.A X.xe none (EP X pins σ Q) acc C) (Post := Q) hc I2 T st2 f2 hkind hcl1 hcl2 hcell hcap hg ht he hw ?_
  intro D C H' s' I' hm fC hD q
  obtain ⟨m, hn⟩ := hm
  refine ⟨m, hn, fun h' hs' => ?_⟩
  obtain ⟨f0, f1, f2', f3, f4, f5⟩ := fC
  refine ⟨.ref D, H', ?_, rfl, q⟩
  exact I'.turned (t' := s'.toks) (fun b o hb e => hs'.extBut b o hb e) f0 f1 f3 f4 f5

/-- name = [elt for tg in iter if ..], where the store comes ahead of the block's end -/
theorem ps_setC {i : Nat} {x : Str} {tg elt iter : Expr} {ifs : List Expr} {pos pos' spos : Pos} {wi : TI} {g : TG} {tt : TT} {te : TE} (own : List Str) (cap : List Nat) (hc : X.calm = true) (hN : X.N.Nodup) (hix : X.N[i]? = some x) (hx : X.env.scope.names.lookup x = some .local) (hi : PI X tg iter wi)
    (hg : ∀ cl C fp s H, PG (X.inC sc cl C (NC X own cap) fp s H) tg g) (ht : ∀ cl C fp s H, PIf (X.inC sc cl C (NC X own cap) fp s H) ifs tt) (he : ∀ cl C fp s H, PE (X.inC sc cl C (NC X own cap) fp s H) elt te)
    (hcap : Caps X sc cap) (hsw : swapsWith (.ListComp elt [⟨tg, iter, ifs, 0⟩] sc pos) (some (.Name x pos')) spos.line X.env = pure true := by rfl) (hkind : sc.kind = .function := by rfl) (hcell : ∀ y ∈ sc.names, y.2 ≠ .cell := by decide +kernel)
    (hfr : ∀ y ∈ sc.names, y.2 = .free → X.env.kindOf y.1 = some .cell ∨ X.env.kindOf y.1 = some .free := by decide +kernel)
    (hnames : ∀ x ∈ sc.names, x.2 = .local → sc.names.lookup x.1 = some .local := by decide +kernel) (hs : ∀ x, foldedSetIterable iter X.env x = pure x := by intro _; rfl) :
    PS X (.Assign [.Name x pos'] (.ListComp elt [⟨tg, iter, ifs, 0⟩] sc pos) spos) (tAsg (tComp own.length cap wi g tt te) (gName i)) := by
  intro pins s σ H D I h
  obtain ⟨cl, hclos, hcl1, hcl2⟩ := free_cells I hfr
  rw [exec_Assign_Name_used _ _ _ _ hsw]
  refine wpAny_bind (wpAny_standAt (wpAny_bind ?_))
  show wpAny _ X.A (do let _ ← comprehension (.ListComp elt [⟨tg, iter, ifs, 0⟩] sc pos) sc X.env _ (newList []) false (eval iter X.env) (some (assign (.Name x pos') X.env))) _ _ s
  refine wpAny_bind (wpAny_mono (wpAny_comprehension_free (use := some (assign (.Name x pos') X.env)) (Q := fun _ s' => SP X pins D .next s') rfl hs hclos hkind hnames
    (thn (hi pins s σ H _ I h) fun v s1 h1 => thn h1 fun itv s2 h2 => ?_)) (fun _ s' hq => wpAny_pure (wpAny_pure hq)) fun _ _ e => e)
  obtain ⟨it, fp, tn, J, H2, e, I2, T, st2, f2, hw⟩ := h2
  subst e
  refine comp_core (RR := fun acc C => compPost (model X.prog X.w) X.A X.xe (some (assign (.Name x pos') X.env)) (fun _ s' => SP X pins D .next s') acc C) (Post := fun y H1 => D.nx (σ.set i (some y)) H1) hc I2 T st2 f2 hkind hcl1 hcl2 hcell hcap hg ht he hw ?_
  intro Da C H' s' I' hm fC hD q
  obtain ⟨m, hn⟩ := hm
  obtain ⟨f0, f1, f2', f3, f4, f5⟩ := fC
  refine wpAny_assign_Name (store_ok2 I' hN hix (.inl hx) (v := .ref Da) rfl (fun s'' I'' hsb => ?_) (.inr hx))
  obtain ⟨a, hsb, ha⟩ := hsb
  have ha : C ≠ a := by
    rcases ha with z | z
    · rw [z]; exact f1
    · exact (f4 x a z).symm
  refine ⟨m, hn.sameBut hsb ha, fun h' hs' => ?_⟩
  exact ⟨_, H', I''.turned (t' := s''.toks) (fun b o hb e => hs'.extBut b o hb e) f0 f1 f3 f4 f5, q⟩
end
end L2

set_option Elab.async false
set_option linter.all false
set_option maxRecDepth 100000
/-! DATA that a value stands for (own work) -/
namespace L2
open PySem PySem.Spec PyProof.Rows

inductive D where
  | non | bl (b : Bool) | int (i : Int) | str (x : Str) | lst (ds : List D) | tup (ds : List D) | dct (es : List (Key × D))

mutual
inductive Rep (K : PySem.W.Frag) (H : Hp) : V → D → Prop
  | non : Rep K H .non .non
  | bl (b : Bool) : Rep K H (.bl b) (.bl b)
  | int (i : Int) : Rep K H (.int i) (.int i)
  | str (x : Str) : Rep K H (.str x) (.str x)
  | lst {a : Addr} {xs : List V} {ds : List D} : SqL K H a xs → Reps K H xs ds → Rep K H (.ref a) (.lst ds)
  | tup {a : Addr} {xs : List V} {ds : List D} : SqT K H a xs → Reps K H xs ds → Rep K H (.ref a) (.tup ds)
  | dct {a : Addr} {kvs : List (Key × V)} {es : List (Key × D)} : Rd H a (.dK kvs) → RepD K H kvs es → Rep K H (.ref a) (.dct es)
inductive Reps (K : PySem.W.Frag) (H : Hp) : List V → List D → Prop
  | nil : Reps K H [] []
  | cons {x : V} {d : D} {xs : List V} {ds : List D} : Rep K H x d → Reps K H xs ds → Reps K H (x :: xs) (d :: ds)
inductive RepD (K : PySem.W.Frag) (H : Hp) : List (Key × V) → List (Key × D) → Prop
  | nil : RepD K H [] []
  | cons {k : Key} {x : V} {d : D} {xs : List (Key × V)} {ds : List (Key × D)} : Rep K H x d → RepD K H xs ds → RepD K H ((k, x) :: xs) ((k, d) :: ds)
end

/-- what can be read stays to be read (a dict may be held fast or let go) -/
structure Sm (H H' : Hp) : Prop where
  lst : ∀ a xs, Rd H a (.lst xs) → Rd H' a (.lst xs)
  tup : ∀ a xs, Rd H a (.tup xs) → Rd H' a (.tup xs)
  dK : ∀ a kvs, Rd H a (.dK kvs) → Rd H' a (.dK kvs)
theorem Sm.refl (H : Hp) : Sm H H := ⟨fun _ _ h => h, fun _ _ h => h, fun _ _ h => h⟩
theorem Sm.trans {H H1 H2 : Hp} (a : Sm H H1) (b : Sm H1 H2) : Sm H H2 := ⟨fun c x h => b.lst c x (a.lst c x h), fun c x h => b.tup c x (a.tup c x h), fun c x h => b.dK c x (a.dK c x h)⟩
theorem Same.sm {H H' : Hp} (e : Same H H') : Sm H H' :=
  ⟨fun a xs h => h.elim (fun q => .inl (e _ _ q)) fun ⟨o, q⟩ => .inr ⟨o, e _ _ q⟩, fun a xs h => h.elim (fun q => .inl (e _ _ q)) fun ⟨o, q⟩ => .inr ⟨o, e _ _ q⟩, fun a xs h => h.elim (fun q => .inl (e _ _ q)) fun ⟨o, q⟩ => .inr ⟨o, e _ _ q⟩⟩
theorem Same.updN {H : Hp} {p : Addr} {o : HO} (h : H p = none) : Same H (upd H p o) := fun b u e => by rw [upd_ne (ne_of_none e h)]; exact e
theorem Same.upd {H H' : Hp} {p : Addr} {o : HO} (s : Same H H') (h : H p = none) : Same H (upd H' p o) := fun b u e => by rw [upd_ne (ne_of_none e h)]; exact s b u e

section
variable {K : PySem.W.Frag} {H H' : Hp}
theorem Sm.sqL (e : Sm H H') {a : Addr} {xs : List V} (h : SqL K H a xs) : SqL K H' a xs := by
  rcases h with h | h
  · exact .inl (e.lst a xs h)
  · exact .inr h
theorem Sm.sqT (e : Sm H H') {a : Addr} {xs : List V} (h : SqT K H a xs) : SqT K H' a xs := by
  rcases h with h | h
  · exact .inl (e.tup a xs h)
  · exact .inr h
mutual
theorem Rep.sm (e : Sm H H') : ∀ {x : V} {d : D}, Rep K H x d → Rep K H' x d
  | _, _, .non => .non
  | _, _, .bl b => .bl b
  | _, _, .int i => .int i
  | _, _, .str x => .str x
  | _, _, .lst h r => .lst (e.sqL h) (Reps.sm e r)
  | _, _, .tup h r => .tup (e.sqT h) (Reps.sm e r)
  | _, _, .dct h r => .dct (e.dK _ _ h) (RepD.sm e r)
theorem Reps.sm (e : Sm H H') : ∀ {x : List V} {d : List D}, Reps K H x d → Reps K H' x d
  | _, _, .nil => .nil
  | _, _, .cons h r => .cons (Rep.sm e h) (Reps.sm e r)
theorem RepD.sm (e : Sm H H') : ∀ {x : List (Key × V)} {d : List (Key × D)}, RepD K H x d → RepD K H' x d
  | _, _, .nil => .nil
  | _, _, .cons h r => .cons (Rep.sm e h) (RepD.sm e r)
end
theorem Reps.length {xs : List V} {ds : List D} : Reps K H xs ds → xs.length = ds.length
  | .nil => rfl
  | .cons _ r => by rw [List.length_cons, List.length_cons, r.length]
theorem RepD.length {xs : List (Key × V)} {ds : List (Key × D)} : RepD K H xs ds → xs.length = ds.length
  | .nil => rfl
  | .cons _ r => by rw [List.length_cons, List.length_cons, r.length]
theorem Reps.get : ∀ {xs : List V} {ds : List D} {i : Nat} {d : D}, Reps K H xs ds → ds[i]? = some d → ∃ x, xs[i]? = some x ∧ Rep K H x d
  | _, _, _, _, .nil, e => by simp at e
  | _, _, 0, _, .cons h _, e => by simp at e; subst e; exact ⟨_, rfl, h⟩
  | _, _, i + 1, d, .cons _ r, e => by
    obtain ⟨x, h1, h2⟩ := Reps.get (i := i) (d := d) r (by simpa using e)
    exact ⟨x, by simpa using h1, h2⟩
theorem Reps.get' : ∀ {xs : List V} {ds : List D} {i : Nat} {x : V}, Reps K H xs ds → xs[i]? = some x → ∃ d, ds[i]? = some d ∧ Rep K H x d
  | _, _, _, _, .nil, e => by simp at e
  | _, _, 0, _, .cons h _, e => by simp at e; subst e; exact ⟨_, rfl, h⟩
  | _, _, i + 1, d, .cons _ r, e => by
    obtain ⟨x, h1, h2⟩ := Reps.get' (i := i) (x := d) r (by simpa using e)
    exact ⟨x, by simpa using h1, h2⟩
theorem Reps.append : ∀ {xs ys : List V} {ds es : List D}, Reps K H xs ds → Reps K H ys es → Reps K H (xs ++ ys) (ds ++ es)
  | _, _, _, _, .nil, s => s
  | _, _, _, _, .cons r t, s => .cons r (Reps.append t s)
theorem Reps.one {x : V} {d : D} (h : Rep K H x d) : Reps K H [x] [d] := .cons h .nil
theorem Reps.take : ∀ {xs : List V} {ds : List D} (n : Nat), Reps K H xs ds → Reps K H (xs.take n) (ds.take n)
  | _, _, 0, _ => .nil
  | _, _, _ + 1, .nil => .nil
  | _, _, n + 1, .cons r t => .cons r (Reps.take n t)
theorem Reps.drop : ∀ {xs : List V} {ds : List D} (n : Nat), Reps K H xs ds → Reps K H (xs.drop n) (ds.drop n)
  | _, _, 0, r => r
  | _, _, _ + 1, .nil => .nil
  | _, _, n + 1, .cons _ t => Reps.drop n t
theorem Reps.eraseIdx : ∀ {xs : List V} {ds : List D} (n : Nat), Reps K H xs ds → Reps K H (xs.eraseIdx n) (ds.eraseIdx n)
  | _, _, _, .nil => .nil
  | _, _, 0, .cons _ t => t
  | _, _, n + 1, .cons r t => .cons r (Reps.eraseIdx n t)
/-- flat data: the value is written -/
theorem Reps.strs {ss : List Str} : Reps K H (ss.map V.str) (ss.map D.str) := by
  induction ss with
  | nil => exact .nil
  | cons x r ih => exact .cons (.str x) ih
theorem Reps.ints {ss : List Int} : Reps K H (ss.map V.int) (ss.map D.int) := by
  induction ss with
  | nil => exact .nil
  | cons x r ih => exact .cons (.int x) ih
theorem RepD.get : ∀ {xs : List (Key × V)} {ds : List (Key × D)} {k : Key} , RepD K H xs ds →
    (∀ d, (ds.find? fun e => decide (e.1 = k)).map (·.2) = some d → ∃ x, valV xs k = some x ∧ Rep K H x d) ∧ ((ds.find? fun e => decide (e.1 = k)) = none → valV xs k = none)
  | _, _, _, .nil => ⟨fun d e => (by cases e), fun _ => rfl⟩
  | _, _, k, .cons (k := k0) h r => by
    obtain ⟨i1, i2⟩ := RepD.get (k := k) r
    by_cases e : k0 = k
    · subst e
      refine ⟨fun d ed => ?_, fun ed => ?_⟩
      · simp at ed
        subst ed
        exact ⟨_, by simp [valV], h⟩
      · simp at ed
    · refine ⟨fun d ed => ?_, fun ed => ?_⟩
      · rw [List.find?_cons, decide_eq_false e] at ed
        obtain ⟨x, h1, h2⟩ := i1 d ed
        exact ⟨x, by unfold valV; rw [List.find?_cons, decide_eq_false e]; exact h1, h2⟩
      · rw [List.find?_cons, decide_eq_false e] at ed
        unfold valV; rw [List.find?_cons, decide_eq_false e]; exact i2 ed
theorem RepD.keys {xs : List (Key × V)} {ds : List (Key × D)} : RepD K H xs ds → xs.map (·.1) = ds.map (·.1)
  | .nil => rfl
  | .cons _ r => by rw [List.map_cons, List.map_cons, r.keys]
end
end L2

set_option Elab.async false
set_option linter.all false
set_option maxRecDepth 100000
/-! EQUALITY of data, where it holds (own work) -/
namespace L2
open PySem PySem.Spec PyProof.Rows PySem.SeqAt

def EqIn (P : Program) (w : World) (A : Around) (s : Shared) (y x : Value) (b : Bool) : Prop :=
  ∀ (E : Value → Shared → Prop) (Q : Bool → Shared → Prop), Q b s → wpAny (model P w) A (eqBool y x) Q E s
theorem EqIn.of {P : Program} {w : World} {A : Around} {s : Shared} {y x : Value} {b : Bool} (h : EqAt A s y x b) : EqIn P w A s y x b := fun E Q q => h P w E Q q

/- data without dicts; how deep -/
mutual
def D.flat : D → Bool
  | .dct _ => false
  | .lst ds => D.flats ds
  | .tup ds => D.flats ds
  | _ => true
def D.flats : List D → Bool
  | [] => true
  | d :: r => d.flat && D.flats r
end
mutual
def D.dep : D → Nat
  | .dct es => D.depD es + 1
  | .lst ds => D.deps ds + 1
  | .tup ds => D.deps ds + 1
  | _ => 0
def D.deps : List D → Nat
  | [] => 0
  | d :: r => max d.dep (D.deps r)
def D.depD : List (Key × D) → Nat
  | [] => 0
  | (_, d) :: r => max d.dep (D.depD r)
end
theorem D.flats_get : ∀ {ds : List D} {i : Nat} {d : D}, D.flats ds = true → ds[i]? = some d → d.flat = true
  | [], _, _, _, e => by simp at e
  | d :: r, 0, _, h, e => by simp at e; subst e; simp [D.flats] at h; exact h.1
  | _ :: r, i + 1, _, h, e => by simp [D.flats] at h; exact D.flats_get h.2 (by simpa using e)
theorem D.deps_get : ∀ {ds : List D} {i : Nat} {d : D}, ds[i]? = some d → d.dep ≤ D.deps ds
  | [], _, _, e => by simp at e
  | d :: r, 0, _, e => by simp at e; subst e; simp only [D.deps]; omega
  | _ :: r, i + 1, d, e => by
    have := D.deps_get (ds := r) (i := i) (d := d) (by simpa using e)
    simp only [D.deps]
    omega

section
variable {X : Cx} {pins : List (Addr × Obj)} {σ : St} {H : Hp} {s : Shared}
theorem all_range_true (n : Nat) : (List.range n).all (fun _ => true) = true := by simp
theorem RelV.eqAt_flat {x : V} {u v : Value} (A : Around) (r : RelV x u) (q : RelV x v) (f : flatV x = true) : EqAt A s u v true := by
  have h := eqAt_V (A := A) (s := s) r q f f
  have e : eqV x x = true := by cases x <;> first | exact absurd (show false = true from f) Bool.false_ne_true | rfl | (simp [eqV]; done)
  rw [e] at h
  exact h
/-- two things that stand for the same data without dicts are equal -/
theorem rep_eqAt (I : Inv X pins σ H s) : ∀ (d : D) {x y : V} {u v : Value} {A : Around}, d.flat = true → A.units + d.dep < cLine → Rep X.K H x d → Rep X.K H y d → RelV x u → RelV y v → EqAt A s u v true ∧ (∀ a b, u = .ref a → v = .ref b → RcAt A s u v true ∧ RcNeAt A s u v false)
  | .non, x, y, u, v, A, _, _, r1, r2, e1, e2 => by cases r1; cases r2; exact ⟨RelV.eqAt_flat A e1 e2 rfl, fun a b h _ => by cases e1; cases h⟩
  | .bl _, x, y, u, v, A, _, _, r1, r2, e1, e2 => by cases r1; cases r2; exact ⟨RelV.eqAt_flat A e1 e2 rfl, fun a b h _ => by cases e1; cases h⟩
  | .int _, x, y, u, v, A, _, _, r1, r2, e1, e2 => by cases r1; cases r2; exact ⟨RelV.eqAt_flat A e1 e2 rfl, fun a b h _ => by obtain ⟨t, rfl⟩ := e1; cases h⟩
  | .str _, x, y, u, v, A, _, _, r1, r2, e1, e2 => by cases r1; cases r2; exact ⟨RelV.eqAt_flat A e1 e2 rfl, fun a b h _ => by obtain ⟨t, rfl⟩ := e1; cases h⟩
  | .dct _, _, _, _, _, _, f, _, _, _, _, _ => by cases f
  | .lst ds, x, y, u, v, A, f, hu, r1, r2, e1, e2 => by
    cases r1 with
    | lst q1 p1 =>
    cases r2 with
    | lst q2 p2 =>
    cases e1; cases e2
    rename_i a1 xs1 a2 xs2
    obtain ⟨i1, v1, l1, _⟩ := I.list q1
    obtain ⟨i2, v2, l2, _⟩ := I.list q2
    have n1 := p1.length; have n2 := p2.length; have m1 := v1.length; have m2 := v2.length
    have hd : A.units + (D.deps ds + 1) < cLine := hu
    have ie : ∀ j (h1 : j < i1.toArray.size) (h2 : j < i2.toArray.size), EqAt A.in1 s i1.toArray[j] i2.toArray[j] true := fun j h1 h2 => by
      have h1' : j < i1.length := by simpa using h1
      have h2' : j < i2.length := by simpa using h2
      have hj : j < ds.length := by omega
      have eds : ds[j]? = some ds[j] := List.getElem?_eq_getElem hj
      obtain ⟨y1, g1, w1⟩ := p1.get eds
      obtain ⟨y2, g2, w2⟩ := p2.get eds
      obtain ⟨u1, k1, z1⟩ := v1.get g1
      obtain ⟨u2, k2, z2⟩ := v2.get g2
      have c1 : i1.toArray[j] = u1 := by simpa [List.getElem?_eq_getElem h1'] using k1
      have c2 : i2.toArray[j] = u2 := by simpa [List.getElem?_eq_getElem h2'] using k2
      rw [c1, c2]
      have hdep := D.deps_get eds
      exact (rep_eqAt I ds[j] (A := A.in1) (D.flats_get f eds) (by show A.units + 1 + _ < cLine; omega) w1 w2 z1 z2).1
    have rc := RcAt.lists (A := A) (e := fun _ => true) l1.isList l2.isList (by simp; omega) (by omega) ie
    have rn := RcNeAt.lists (A := A) (e := fun _ => true) l1.isList l2.isList (by simp; omega) (by omega) ie
    rw [all_range_true] at rc rn
    refine ⟨?_, fun _ _ _ _ => ⟨rc, rn⟩⟩
    by_cases e : a1 = a2
    · subst e; exact EqAt.same _
    · exact EqAt.of_refs e rc
  | .tup ds, x, y, u, v, A, f, hu, r1, r2, e1, e2 => by
    cases r1 with
    | tup q1 p1 =>
    cases r2 with
    | tup q2 p2 =>
    cases e1; cases e2
    rename_i a1 xs1 a2 xs2
    obtain ⟨i1, v1, l1, _⟩ := I.tuple q1
    obtain ⟨i2, v2, l2, _⟩ := I.tuple q2
    have n1 := p1.length; have n2 := p2.length; have m1 := v1.length; have m2 := v2.length
    have hd : A.units + (D.deps ds + 1) < cLine := hu
    have ie : ∀ j (h1 : j < i1.toArray.size) (h2 : j < i2.toArray.size), EqAt A.in1 s i1.toArray[j] i2.toArray[j] true := fun j h1 h2 => by
      have h1' : j < i1.length := by simpa using h1
      have h2' : j < i2.length := by simpa using h2
      have hj : j < ds.length := by omega
      have eds : ds[j]? = some ds[j] := List.getElem?_eq_getElem hj
      obtain ⟨y1, g1, w1⟩ := p1.get eds
      obtain ⟨y2, g2, w2⟩ := p2.get eds
      obtain ⟨u1, k1, z1⟩ := v1.get g1
      obtain ⟨u2, k2, z2⟩ := v2.get g2
      have c1 : i1.toArray[j] = u1 := by simpa [List.getElem?_eq_getElem h1'] using k1
      have c2 : i2.toArray[j] = u2 := by simpa [List.getElem?_eq_getElem h2'] using k2
      rw [c1, c2]
      have hdep := D.deps_get eds
      exact (rep_eqAt I ds[j] (A := A.in1) (D.flats_get f eds) (by show A.units + 1 + _ < cLine; omega) w1 w2 z1 z2).1
    have t1 : s.heap.IsTuple a1 i1.toArray := l1
    have t2 : s.heap.IsTuple a2 i2.toArray := l2
    have rc := RcAt.tuples (A := A) (e := fun _ => true) t1 t2 (by omega) ie
    have rn := RcNeAt.tuples (A := A) (e := fun _ => true) t1 t2 (by omega) ie
    have sz : (i1.toArray.size == i2.toArray.size) = true := by simp; omega
    rw [all_range_true, sz] at rc rn
    refine ⟨?_, fun _ _ _ _ => ⟨rc, rn⟩⟩
    by_cases e : a1 = a2
    · subst e; exact EqAt.same _
    · exact EqAt.of_refs e rc
termination_by d => sizeOf d
decreasing_by
  all_goals simp_wf
  all_goals (have := List.sizeOf_lt_of_mem (List.getElem_mem hj); omega)
end
end L2

set_option Elab.async false
set_option linter.all false
set_option maxRecDepth 100000
namespace L2
open PySem PySem.Spec PyProof.Rows PySem.SeqAt

section
variable {P : Program} {w : World} {κ : Type} [DecidableEq κ] {kd : KeyKind P w κ} {A : Around} {E : Value → Shared → Prop} {s : Shared}
/-- every pair of the one has its like in the other -/
def Likes (P : Program) (w : World) (A : Around) (s : Shared) (qs ps : List (κ × Value)) : Prop := ∀ k v, (k, v) ∈ ps → ∃ y, valueAt qs k = some y ∧ EqIn P w A s v y true
theorem pairs_alike {nm : String} {p q : Addr} {ps qs : List (κ × Value)} {Q : Bool → Shared → Prop} (np : (p == sysModules) = false) (nq : (q == sysModules) = false) (dp : s.heap.DictOf kd p ps) (dq : s.heap.DictOf kd q qs)
    (hl : ps.length = qs.length) (hk : Likes P w A s qs ps) (h : Q true s) : wpAny (model P w) A (Builtin.Dict.samePairs nm p q) Q E s := by
  obtain ⟨o1, e1, n1, g1, _, d1, k1, r1, _⟩ := dp
  obtain ⟨o2, e2, n2, g2, _, d2, k2, r2, _⟩ := dq
  have l1 : ps.length = e1.size := (r1.length).symm.trans Array.length_toList
  have l2 : qs.length = e2.size := (r2.length).symm.trans Array.length_toList
  have look : ∀ k, findBy kd.is e2 k = valueAt qs k := fun k => by
    have := r2.find k
    rw [← this]
    clear this l2 r2 k2 d2 g2
    obtain ⟨l⟩ := e2
    simp [findBy]
  have sz : e1.size = e2.size := by omega
  unfold Builtin.Dict.samePairs Builtin.Dict.showsAll
  have np' : ¬ (p == sysModules) = true := by rw [np]; decide
  have nq' : ¬ (q == sysModules) = true := by rw [nq]; decide
  rw [if_neg np', if_neg nq']
  refine wpAny_bind (wpAny_pure (wpAny_bind (wpAny_pure (wpAny_bind (wpAny_dictEntries g1 d1 ?_)))))
  dsimp only
  refine wpAny_bind (wpAny_dictEntries g2 d2 ?_)
  rw [if_neg (by rw [sz]; simp)]
  refine wpAny_bind (wpAny_dictEpoch g1 d1 (wpAny_bind ?_))
  rw [Std.Legacy.Range.forIn_eq_forIn_range']
  simp only [Std.Legacy.Range.size, Nat.sub_zero, Nat.add_sub_cancel, Nat.div_one]
  refine wpAny_forIn_list _ (fun rest t s' => s' = s ∧ t = (none, ()) ∧ ∃ i, rest = List.range' i (e1.size - i) ∧ i ≤ e1.size) _ ?_ ?_ _ _ ⟨rfl, rfl, 0, by simp, Nat.zero_le _⟩
  · rintro x rest t s' ⟨rfl, rfl, i, hr, hi⟩
    have lt : i < e1.size := Nat.lt_of_not_le fun z => by rw [Nat.sub_eq_zero_of_le z] at hr; simp at hr
    have es : e1.size - i = (e1.size - (i + 1)) + 1 := by omega
    rw [es, List.range'_succ] at hr
    injection hr with hx hrest
    subst hx
    refine wpAny_bind (wpAny_dictEntries g1 d1 ?_)
    rw [Array.getElem?_eq_getElem lt]
    have lt' : x < ps.length := by omega
    have gp : ps[x]? = some ps[x] := List.getElem?_eq_getElem lt'
    obtain ⟨hkey, hval⟩ := r1.get? (i := x) (e := e1[x]) (k := ps[x].1) (v := ps[x].2) (by rw [Array.getElem?_toList]; exact Array.getElem?_eq_getElem lt) gp
    obtain ⟨k', hk', hh⟩ := k1 e1[x] (Array.getElem_mem lt)
    have ek : k' = ps[x].1 := kd.inj _ _ _ hk' hkey
    subst ek
    obtain ⟨y, hy, heq⟩ := hk ps[x].1 ps[x].2 (List.getElem_mem lt')
    show wpAny _ _ (holding [e1[x].key, e1[x].val] _ >>= _) _ _ _
    rw [hh]
    refine wpAny_bind (wpAny_holding (wpAny_bind (wpAny_dictFind_of hkey g2 d2 k2 ?_)))
    have fy := (look ps[x].1).trans hy
    rw [findBy_of_findIdx?] at fy
    cases hj : e2.findIdx? fun e => kd.is ps[x].1 e.key with
    | none => rw [hj] at fy; cases fy
    | some j =>
      obtain ⟨jl, _, _⟩ := Array.findIdx?_eq_some_iff_getElem.mp hj
      have ev : e2[j].val = y := by
        rw [hj] at fy
        simpa [Array.getElem?_eq_getElem jl] using fy
      refine wpAny_bind (wpAny_dictEntries g2 d2 ?_)
      rw [Array.getElem?_eq_getElem jl]
      rw [← ev, ← hval] at heq
      refine wpAny_holding (heq _ _ ?_)
      show wpAny _ _ (if (!true) = true then _ else _) _ _ _
      rw [if_neg (by decide)]
      refine wpAny_bind (wpAny_dictEpoch g1 d1 ?_)
      rw [if_neg (by simp)]
      exact wpAny_pure ⟨rfl, rfl, x + 1, hrest, lt⟩
  · rintro t s' ⟨rfl, rfl, _⟩
    exact wpAny_pure h
theorem dict_slot2 {f : String} {p q : Addr} {qs : List (κ × Value)} {R : Value × Value → Shared → Prop} (tp : s.TypeIs (.ref p) "dict") (h : R (.ref p, .ref q) s) : wpAny (model P w) A (Builtin.Dict.dictSlotArgs f ⟨[.ref p, .ref q], []⟩) R E s := by
  unfold Builtin.Dict.dictSlotArgs
  refine wpAny_bind (wpAny_notOrdered_dict tp ?_)
  exact wpAny_pure h
theorem dict_eq_true {p q : Addr} {ps qs : List (κ × Value)} {Q : Value → Shared → Prop} (np : (p == sysModules) = false) (nq : (q == sysModules) = false) (dp : s.heap.DictOf kd p ps) (dq : s.heap.DictOf kd q qs) (hu : A.units < cLine)
    (hl : ps.length = qs.length) (hk : Likes P w A.in1 s qs ps) (h : Q (.bool true) s) : wpAny (model P w) A (compareOp .Eq (.ref p) (.ref q)) Q E s := by
  refine wpAny_richCompare_same_room (op := .Eq) dp.typeIs dq.typeIs PySem.F.slot_dict_eq (wpAny_call_entry PySem.F.slot_dict_eq dp.typeIs PySem.F.entry_dict_eq ?_ (PySem.F.args_dict_eq_2 _ _)) hu
  show wpAny _ _ (Builtin.Dict.dictSlotArgs "__eq__" ⟨[.ref p, .ref q], []⟩ >>= _) _ _ s
  refine wpAny_bind (dict_slot2 (qs := qs) dp.typeIs (wpAny_bind (wpAny_isInstance (T := "dict") dq.typeIs PySem.F.sub_dict_dict ?_)))
  simp only [Bool.not_true, Bool.false_eq_true, if_false]
  exact wpAny_bind (wpAny_pure (wpAny_bind (wpAny_pure (wpAny_bind (pairs_alike np nq dp dq hl hk (wpAny_pure ⟨_, rfl, (fun x => nomatch x), h⟩))))))
theorem dict_ne_false {p q : Addr} {ps qs : List (κ × Value)} {Q : Value → Shared → Prop} (np : (p == sysModules) = false) (nq : (q == sysModules) = false) (dp : s.heap.DictOf kd p ps) (dq : s.heap.DictOf kd q qs) (hu : A.units < cLine)
    (hl : ps.length = qs.length) (hk : Likes P w A.in1 s qs ps) (h : Q (.bool false) s) : wpAny (model P w) A (compareOp .NotEq (.ref p) (.ref q)) Q E s := by
  refine wpAny_richCompare_same_room (op := .NotEq) dp.typeIs dq.typeIs PySem.F.slot_dict_ne (wpAny_call_entry PySem.F.slot_dict_ne dp.typeIs PySem.F.entry_dict_ne ?_ (PySem.F.args_dict_ne_2 _ _)) hu
  show wpAny _ _ (Builtin.Dict.dictSlotArgs "__ne__" ⟨[.ref p, .ref q], []⟩ >>= _) _ _ s
  refine wpAny_bind (dict_slot2 (qs := qs) dp.typeIs (wpAny_bind (wpAny_isInstance (T := "dict") dq.typeIs PySem.F.sub_dict_dict ?_)))
  simp only [Bool.not_true, Bool.false_eq_true, if_false]
  exact wpAny_bind (wpAny_pure (wpAny_bind (wpAny_pure (wpAny_bind (pairs_alike np nq dp dq hl hk (wpAny_pure ⟨_, rfl, (fun x => nomatch x), h⟩))))))
end
end L2

set_option Elab.async false
set_option linter.all false
set_option maxRecDepth 100000
namespace L2
open PySem PySem.Spec PyProof.Rows PySem.SeqAt
def lookD (es : List (Key × D)) (k : Key) : Option D := (es.find? fun e => decide (e.1 = k)).map (·.2)
/-- equal as Python says it: dicts in any order -/
inductive DEq : D → D → Prop
  | same {d : D} : d.flat = true → DEq d d
  | dct {es fs : List (Key × D)} (f : Key → D) : es.length = fs.length → (∀ k d, (k, d) ∈ es → lookD fs k = some (f k)) → (∀ k d, (k, d) ∈ es → DEq d (f k)) → DEq (.dct es) (.dct fs)
theorem D.depD_mem : ∀ {es : List (Key × D)} {k : Key} {d : D}, (k, d) ∈ es → d.dep ≤ D.depD es
  | [], _, _, h => by simp at h
  | (k0, d0) :: r, k, d, h => by
    simp only [D.depD]
    rcases List.mem_cons.mp h with e | e
    · cases e; omega
    · have := D.depD_mem e; omega
section
variable {K : PySem.W.Frag} {X : Cx} {pins : List (Addr × Obj)} {σ : St} {H : Hp} {s : Shared}
theorem RepD.mem : ∀ {xs : List (Key × V)} {ds : List (Key × D)} {k : Key} {x : V}, RepD K H xs ds → (k, x) ∈ xs → ∃ d, (k, d) ∈ ds ∧ Rep K H x d
  | _, _, _, _, .nil, h => by simp at h
  | _, _, _, _, .cons h0 r, h => by
    rcases List.mem_cons.mp h with e | e
    · cases e; exact ⟨_, List.mem_cons_self, h0⟩
    · obtain ⟨d, a, b⟩ := r.mem e; exact ⟨d, List.mem_cons_of_mem _ a, b⟩
theorem KV.mem {κ : Type} : ∀ {xs : List (κ × V)} {vs : List (κ × Value)} {k : κ} {u : Value}, KV xs vs → (k, u) ∈ vs → ∃ x, (k, x) ∈ xs ∧ RelV x u
  | _, _, _, _, .nil, h => by simp at h
  | _, _, _, _, .cons (a := a) h0 r, h => by
    rcases List.mem_cons.mp h with e | e
    · obtain ⟨e1, e2⟩ := h0
      subst e
      exact ⟨a.2, by rw [show a = (a.1, a.2) from rfl, e1]; exact List.mem_cons_self, e2⟩
    · obtain ⟨d, p, q⟩ := KV.mem (xs := _) (vs := _) r e; exact ⟨d, List.mem_cons_of_mem _ p, q⟩
theorem rep_deq (I : Inv X pins σ H s) : ∀ {d d' : D}, DEq d d' → ∀ {x y : V} {u v : Value} {A : Around}, A.units + d.dep < cLine → Rep X.K H x d → Rep X.K H y d' → RelV x u → RelV y v →
    EqIn X.prog X.w A s u v true ∧ (∀ a b, u = .ref a → v = .ref b → ∀ (E : Value → Shared → Prop) (Q : Value → Shared → Prop), (Q (.bool true) s → wpAny (model X.prog X.w) A (compareOp .Eq u v) Q E s) ∧ (Q (.bool false) s → wpAny (model X.prog X.w) A (compareOp .NotEq u v) Q E s)) := by
  intro d d' h
  induction h with
  | same f =>
    intro x y u v A hu r1 r2 e1 e2
    obtain ⟨a1, a2⟩ := rep_eqAt I _ f hu r1 r2 e1 e2
    exact ⟨EqIn.of a1, fun a b h1 h2 E Q => ⟨fun q => (a2 a b h1 h2).1 _ _ _ _ q, fun q => (a2 a b h1 h2).2 _ _ _ _ q⟩⟩
  | @dct es fs f hl hlook hd ih =>
    intro x y u v A hu r1 r2 e1 e2
    cases r1 with
    | dct q1 p1 =>
    cases r2 with
    | dct q2 p2 =>
    cases e1; cases e2
    rename_i a1 k1 a2 k2
    obtain ⟨z1, m1, v1, w1, o1⟩ := dk_rd I.hok q1
    obtain ⟨z2, m2, v2, w2, o2⟩ := dk_rd I.hok q2
    have hu' : A.units + (D.depD es + 1) < cLine := hu
    have len : v1.length = v2.length := by
      have := p1.length; have := p2.length; have := Paired.length w1; have := Paired.length w2; omega
    have lk : Likes X.prog X.w A.in1 s v2 v1 := fun k u hm => by
      obtain ⟨x, hx, rx⟩ := KV.mem w1 hm
      obtain ⟨d, hd1, rd⟩ := p1.mem hx
      have hf := hlook k d hd1
      obtain ⟨g1, _⟩ := p2.get (k := k)
      obtain ⟨y, hy, ry⟩ := g1 (f k) hf
      have := KV.val w2 k
      rw [hy] at this
      obtain ⟨u2, e2, r2⟩ := RelO.some_of this
      refine ⟨u2, e2, (ih k d hd1 (A := A.in1) ?_ rd ry rx r2).1⟩
      have := D.depD_mem hd1
      show A.units + 1 + _ < cLine
      omega
    have key : ∀ (E : Value → Shared → Prop) (Q : Value → Shared → Prop), (Q (.bool true) s → wpAny (model X.prog X.w) A (compareOp .Eq (.ref a1) (.ref a2)) Q E s) ∧ (Q (.bool false) s → wpAny (model X.prog X.w) A (compareOp .NotEq (.ref a1) (.ref a2)) Q E s) := fun E Q =>
      ⟨fun q => dict_eq_true m1 m2 o1 o2 (by omega) len lk q, fun q => dict_ne_false m1 m2 o1 o2 (by omega) len lk q⟩
    refine ⟨fun E Q q => ?_, fun a b h1 h2 => by cases h1; cases h2; exact key⟩
    by_cases e : a1 = a2
    · subst e
      exact EqAt.same _ _ _ _ _ q
    · unfold eqBool
      refine wpAny_holding (wpAny_ite_split (fun hab => absurd (by have := eq_of_beq hab; injection this) e) (fun _ => ?_))
      exact wpAny_bind ((key E _).1 (wpAny_truthy_bool q))
end
section
variable {X : Cx}
end
end L2

set_option Elab.async false
set_option linter.all false
set_option maxRecDepth 100000
/-! WALKS over dicts (own work) -/
namespace L2
open PySem PySem.Spec PyProof.Rows

section
variable {X : Cx} {pins : List (Addr × Obj)} {σ : St} {H : Hp} {s : Shared} {a : Addr} {kvs : List (Key × V)}
/-- a dict is held fast -/
theorem Inv.freeze (I : Inv X pins σ H s) (h : H a = some (.dK kvs)) : ∃ o : Obj, s.heap.get? a = some o ∧ Inv X pins σ (upd H a (.frz o (.dK kvs))) s := by
  obtain ⟨z, m, vs, rel, o, es, ep, ho, r⟩ := id (I.hok a _ h)
  have ne : ∀ {b : Addr} {u : Option HO}, H b = u → u ≠ some (.dK kvs) → b ≠ a := fun e n q => n (by rw [← e, q, h])
  refine ⟨o, ho, I.ok, I.os, I.bare, ⟨I.base.keep, I.base.slot, fun b ob e n hx => ?_, I.base.there, fun b xs e => ?_, fun b ob u e => ?_, fun b ps e => ?_⟩, I.loc, I.cell, ?_, fun x c e => ?_, fun p hp => ?_, fun b u e => ?_, I.len⟩
  · have := I.base.free b ob e n hx; rw [upd_ne (ne this (by simp))]; exact this
  · have := I.base.tups b xs e; rw [upd_ne (ne this (by simp))]; exact this
  · have := I.base.frzs b ob u e; rw [upd_ne (ne this (by simp))]; exact this
  · obtain ⟨mo, this⟩ := I.base.tbls b ps e; exact ⟨mo, by rw [upd_ne (ne this (by simp))]; exact this⟩
  · rw [upd_ne (ne I.free (by simp))]; exact I.free
  · have := I.freeC x c e; rw [upd_ne (ne this (by simp))]; exact this
  · obtain ⟨e, n, r⟩ := I.pin p hp; exact ⟨e, by rw [upd_ne (ne n (by simp))]; exact n, r⟩
  · have own : ∀ {c d : Addr}, H c = some (.own d) → upd H a (.frz o (.dK kvs)) c = some (.own d) := fun q => by rw [upd_ne (ne q (by simp))]; exact q
    have tup : ∀ {c : Addr} {xs : List V}, H c = some (.tup xs) → upd H a (.frz o (.dK kvs)) c = some (.tup xs) := fun q => by rw [upd_ne (ne q (by simp))]; exact q
    by_cases hb : b = a
    · subst hb
      rw [upd_same] at e
      cases e
      exact ⟨ho, (I.hok b _ h).stay (fun _ _ _ q => q) (fun c q => own q) (fun c xs q => tup q)⟩
    · rw [upd_ne hb] at e
      exact (I.hok b u e).stay (fun _ _ _ q => q) (fun c q => own q) (fun c xs q => tup q)
/-- .. and let go -/
theorem Inv.thaw {o : Obj} (I : Inv X pins σ H s) (h : H a = some (.frz o (.dK kvs))) (h0 : ∀ o u, X.H₀ a ≠ some (.frz o u)) : Inv X pins σ (upd H a (.dK kvs)) s := by
  have ne : ∀ {b : Addr} {u : Option HO}, H b = u → u ≠ some (.frz o (.dK kvs)) → b ≠ a := fun e n q => n (by rw [← e, q, h])
  refine ⟨I.ok, I.os, I.bare, ⟨I.base.keep, I.base.slot, fun b ob e n hx => ?_, I.base.there, fun b xs e => ?_, fun b ob u e => ?_, fun b ps e => ?_⟩, I.loc, I.cell, ?_, fun x c e => ?_, fun p hp => ?_, fun b u e => ?_, I.len⟩
  · have := I.base.free b ob e n hx; rw [upd_ne (ne this (by simp))]; exact this
  · have := I.base.tups b xs e; rw [upd_ne (ne this (by simp))]; exact this
  · have := I.base.frzs b ob u e
    rw [upd_ne (fun (q : b = a) => h0 ob u (by rw [← q]; exact e))]; exact this
  · obtain ⟨mo, this⟩ := I.base.tbls b ps e; exact ⟨mo, by rw [upd_ne (ne this (by simp))]; exact this⟩
  · rw [upd_ne (ne I.free (by simp))]; exact I.free
  · have := I.freeC x c e; rw [upd_ne (ne this (by simp))]; exact this
  · obtain ⟨e, n, r⟩ := I.pin p hp; exact ⟨e, by rw [upd_ne (ne n (by simp))]; exact n, r⟩
  · have own : ∀ {c d : Addr}, H c = some (.own d) → upd H a (.dK kvs) c = some (.own d) := fun q => by rw [upd_ne (ne q (by simp))]; exact q
    have tup : ∀ {c : Addr} {xs : List V}, H c = some (.tup xs) → upd H a (.dK kvs) c = some (.tup xs) := fun q => by rw [upd_ne (ne q (by simp))]; exact q
    by_cases hb : b = a
    · subst hb
      rw [upd_same] at e
      cases e
      exact (I.hok b _ h).2.stay (fun _ _ _ q => q) (fun c q => own q) (fun c xs q => tup q)
    · rw [upd_ne hb] at e
      exact (I.hok b u e).stay (fun _ _ _ q => q) (fun c q => own q) (fun c xs q => tup q)
theorem kV_of {k : Key} {v : Value} (h : keyIs k v = true) : RelV (kV k) v := by
  rcases keyIs_shape h with ⟨i, t, rfl, rfl⟩ | ⟨x, t, rfl, rfl⟩
  · exact ⟨t, rfl⟩
  · exact ⟨t, rfl⟩
theorem frz_at {o : Obj} (I : Inv X pins σ H s) (h : H a = some (.frz o (.dK kvs))) : (a == sysModules) = false ∧ ∃ vs ep, KV kvs vs ∧ s.heap.DictAt (mixKind X.prog X.w) a vs ep ∧ ∃ es, o.data = .dict es ep := by
  obtain ⟨ho, z, m, vs, rel, o', es, ep, ho', r⟩ := id (I.hok a _ h)
  rw [ho] at ho'
  cases ho'
  exact ⟨m, vs, ep, rel, ⟨o, es, ho, r⟩, es, r.2.1⟩
theorem KV.get {κ : Type} : ∀ {xs : List (κ × V)} {vs : List (κ × Value)} {i : Nat} {k : κ} {v : V}, KV xs vs → xs[i]? = some (k, v) → ∃ u, vs[i]? = some (k, u) ∧ RelV v u
  | _, _, _, _, _, .nil, e => by simp at e
  | _, _, 0, k, v, .cons (b := b) h _, e => by
    simp at e
    subst e
    exact ⟨b.2, by have := h.1; simp at this; subst this; rfl, h.2⟩
  | _, _, i + 1, k, v, .cons _ r, e => by
    obtain ⟨u, p, q⟩ := KV.get (i := i) (k := k) (v := v) r (by simpa using e)
    exact ⟨u, by simpa using p, q⟩
end
/-- the keys of the dict at a, which is held fast -/
def Itd (a : Addr) (o : Obj) (kvs : List (Key × V)) : It :=
  ⟨fun i H => H a = some (.frz o (.dK kvs)) ∧ i < kvs.length, fun i H x H' => H' = H ∧ ∃ k v, kvs[i]? = some (k, v) ∧ x = kV k, fun i H => H a = some (.frz o (.dK kvs)) ∧ kvs.length ≤ i⟩
/-- its values -/
def Itv (a : Addr) (o : Obj) (kvs : List (Key × V)) : It :=
  ⟨fun i H => H a = some (.frz o (.dK kvs)) ∧ i < kvs.length, fun i H x H' => H' = H ∧ ∃ k, kvs[i]? = some (k, x), fun i H => H a = some (.frz o (.dK kvs)) ∧ kvs.length ≤ i⟩
theorem keyiter_nocell {h : Heap} {it d : Addr} {i n ep : Nat} (x : h.IsKeyIter it d i n ep) : ∃ o, h.get? it = some o ∧ ∀ v, o.data ≠ .cell v := by
  obtain ⟨o, e, c, q⟩ := x
  exact ⟨o, e, fun v z => by rw [q] at z; cases z⟩
theorem turn_keys {P : Program} {w : World} {K : PySem.W.Frag} {tg : Expr} {o : Obj} {es : Array DictEntry} {ep : Nat} (a it : Addr) (kvs : List (Key × V)) (ho : o.data = .dict es ep) : Turn P w K tg (Itd a o kvs) [it] it (fun i h => h.IsKeyIter it a i kvs.length ep) where
  mem := by simp
  obj := fun i h st b hb => by
    have e : b = it := by simpa using hb
    subst e
    exact keyiter_nocell st
  keep := fun i h h' st k => st.at fun o e => k it (by simp) o e
  item := by
    intro X hP hw hK hc i pins s σ H E I hf st hg
    subst hP hw hK
    obtain ⟨hfz, hi⟩ := hg
    obtain ⟨m, vs, ep', rel, da, es', ho'⟩ := frz_at I hfz
    rw [ho] at ho'; cases ho'
    have hl := Paired.length rel
    obtain ⟨⟨k, v⟩, hx⟩ : ∃ p, kvs[i]? = some p := ⟨kvs[i], by simp [hi]⟩
    obtain ⟨u, hu, ru⟩ := KV.get rel hx
    obtain ⟨f0, f1, f2, f3, f4, f5⟩ := hf it (by simp)
    rw [hl] at st
    refine wpAny_pyNext_dict_item st da hu fun key h' hkey st' sb => ?_
    have I1 : Inv X pins σ H { s with heap := h' } := I.turned (t' := s.toks) (fun b o hb e => (sb.2 b hb).trans e) f0 f1 f3 f4 f5
    obtain ⟨o2, e2, c2, d2⟩ := id st'
    rw [← hl] at st'
    exact ⟨key, rfl, go_of (s := { s with heap := h' }) e2 c2 d2 (by decide) ⟨kV k, H, I1, kV_of hkey, ⟨rfl, k, v, hx, rfl⟩, st', fun b hb => (hf b hb).1⟩⟩
  done := by
    intro X hP hw hK hc i pins s σ H E I hf st hg
    subst hP hw hK
    obtain ⟨hfz, hi⟩ := hg
    obtain ⟨m, vs, ep', rel, da, es', ho'⟩ := frz_at I hfz
    rw [ho] at ho'; cases ho'
    have hl := Paired.length rel
    obtain ⟨f0, f1, f2, f3, f4, f5⟩ := hf it (by simp)
    rw [hl] at st
    exact wpAny_pyNext_dict_end (I.ok.hd hc) st da (by simp; omega) fun h' eb => ⟨rfl, I.turned (t' := s.toks) (fun b o hb e => eb b o hb e) f0 f1 f3 f4 f5⟩
  self := fun _ _ _ _ _ st h => wpAny_pyIter_keyiter st h

/-- H2 is H1 with the dict at a held fast -/
def Fzn (a : Addr) (o : Obj) (kvs : List (Key × V)) (H1 H2 : Hp) : Prop := H2 a = some (.frz o (.dK kvs)) ∧ (H2 = H1 ∨ (H1 a = some (.dK kvs) ∧ H2 = upd H1 a (.frz o (.dK kvs))))
def iDict (tl : TE) : TI := fun σ H R => tl σ H fun x H1 => ∃ a kvs, x = .ref a ∧ Rd H1 a (.dK kvs) ∧ ∀ o H2, Fzn a o kvs H1 H2 → R (Itd a o kvs) H2
section
variable {X : Cx} {tg : Expr}
theorem Inv.fzn {pins : List (Addr × Obj)} {σ : St} {H : Hp} {s : Shared} {a : Addr} {kvs : List (Key × V)} (I : Inv X pins σ H s) (h : Rd H a (.dK kvs)) : ∃ o H2, Fzn a o kvs H H2 ∧ Inv X pins σ H2 s := by
  rcases h with h | ⟨o, h⟩
  · obtain ⟨o, _, I2⟩ := I.freeze h
    exact ⟨o, _, ⟨upd_same, .inr ⟨h, rfl⟩⟩, I2⟩
  · exact ⟨o, H, ⟨h, .inl rfl⟩, I⟩
theorem pi_dict {l : Expr} {tl : TE} (hl : PE X l tl) : PI X tg l (iDict tl) := by
  intro pins s σ H R I h
  refine thn (hl pins s σ H _ I h) fun v s1 ⟨x, H1, I1, r1, q1⟩ => ?_
  obtain ⟨a, kvs, e, hq, q⟩ := q1
  subst e
  cases r1
  obtain ⟨o, H2, fz, I2⟩ := I1.fzn hq
  obtain ⟨m, vs, ep, rel, da, es, ho⟩ := frz_at I2 fz.1
  have hlen := Paired.length rel
  refine wpAny_pyIter_dict m da ?_
  rw [← hlen]
  refine ⟨s1.heap.objs.size, [s1.heap.objs.size], _, _, H2, rfl, I2.kept (t' := s1.toks) fun b o e => Heap.get?_push_of_some _ e, turn_keys a _ kvs ho, ⟨_, Heap.get?_push_size _ rfl, rfl, rfl⟩, fun b hb => ?_, q o H2 fz⟩
  have e : b = s1.heap.objs.size := by simpa using hb
  subst e
  exact I2.fpOk (Nat.le_refl _) (I2.hok.fresh (Nat.le_refl _))
end

/-- what an end must give so that the dict, let go, is as wished -/
def Thw (a : Addr) (o : Obj) (kvs : List (Key × V)) (H1 H H' : Hp) : Prop := (H1 a = some (.dK kvs) ∧ H' = upd H a (.dK kvs)) ∨ (H1 a ≠ some (.dK kvs) ∧ H' = H)
def thawE (a : Addr) (o : Obj) (kvs : List (Key × V)) (H1 : Hp) (D : Ends) : Ends where
  nx := fun σ H => H a = some (.frz o (.dK kvs)) ∧ ∀ H', Thw a o kvs H1 H H' → D.nx σ H'
  rt := fun v H => H a = some (.frz o (.dK kvs)) ∧ ∀ H', Thw a o kvs H1 H H' → D.rt v H'
  bk := fun _ _ => False
  ct := fun _ _ => False
/-- a loop's condition, from its iterator on -/
def LoopVC (J : It) (g : TG) (tb : TS) (D : Ends) (σ : St) (H1 : Hp) : Prop := ∃ W : Nat → Nat → St → Hp → Prop, (∃ m, W 0 m σ H1) ∧ ∀ i m σ H, W i m σ H →
  (J.stop i H ∧ D.nx σ H) ∨ (J.go i H ∧ ∃ N : St → Hp → Prop, (∀ σ' H', N σ' H' → ∃ m', m' < m ∧ W (i + 1) m' σ' H') ∧ ∀ x H', J.yld i H x H' → g x σ H' fun σ2 H2 => tb { D with nx := N, ct := N, bk := D.nx } σ2 H2)
/-- for k in d -/
def tForD (te : TE) (g : TG) (tb : TS) : TS := fun D σ H => te σ H fun x H1 => ∃ a kvs, x = .ref a ∧ Rd H1 a (.dK kvs) ∧ ∀ o H2, Fzn a o kvs H1 H2 → LoopVC (Itd a o kvs) g tb (thawE a o kvs H1 D) σ H2
section
variable {X : Cx} {tg : Expr}
theorem SP.thaw {pins : List (Addr × Obj)} {D : Ends} {f : Flow} {s' : Shared} {a : Addr} {o : Obj} {kvs : List (Key × V)} {H1 : Hp} (h0 : H1 a = some (.dK kvs) → ∀ o u, X.H₀ a ≠ some (.frz o u)) (h : SP X pins (thawE a o kvs H1 D) f s') : SP X pins D f s' := by
  have key : ∀ {σ : St} {H : Hp}, Inv X pins σ H s' → H a = some (.frz o (.dK kvs)) → ∃ H', Inv X pins σ H' s' ∧ Thw a o kvs H1 H H' := fun {σ H} I e => by
    by_cases hc : H1 a = some (.dK kvs)
    · exact ⟨_, I.thaw e (h0 hc), .inl ⟨hc, rfl⟩⟩
    · exact ⟨H, I, .inr ⟨hc, rfl⟩⟩
  cases f with
  | next =>
    obtain ⟨σ', H', I, e, q⟩ := h
    obtain ⟨H2, I2, t⟩ := key I e
    exact ⟨σ', H2, I2, q H2 t⟩
  | ret v =>
    obtain ⟨x, σ', H', I, r, e, q⟩ := h
    obtain ⟨H2, I2, t⟩ := key I e
    exact ⟨x, σ', H2, I2, r, q H2 t⟩
  | brk => obtain ⟨_, _, _, q⟩ := h; exact q.elim
  | cont => obtain ⟨_, _, _, q⟩ := h; exact q.elim
theorem for_gen {iter : Expr} {body : List Stmt} {g : TG} {tb : TS} {pos : Pos} {pins : List (Addr × Obj)} {s : Shared} {σ : St} {D : Ends} (hp : PassesOwn (model X.prog X.w) X.A X.env X.xe) (hc : X.calm = true) (hg : PG X tg g) (hb : PSs X body tb)
    (h : wpAny (model X.prog X.w) X.A (eval iter X.env) (fun v s1 => wpAny (model X.prog X.w) X.A (pyIter v) (PIE X pins σ tg fun J H1 => ∃ D' : Ends, (∀ f s', SP X pins D' f s' → SP X pins D f s') ∧ LoopVC J g tb D' σ H1) X.xe s1) X.xe s)
    (hs : ∀ x, foldedSetIterable iter X.env x = pure x := by intro _; rfl) : wpAny (model X.prog X.w) X.A (exec (.For tg iter body [] pos) X.env) (SP X pins D) X.xe s := by
  refine wpAny_For (thn h fun v s1 h1 => thn h1 fun itv s2 h2 => ?_) hs
  obtain ⟨it, fp, tn, J, H2, e, I2, T, st2, f2, D', hD, W, ⟨m0, w0⟩, turn⟩ := h2
  subst e
  refine codeAny_mono (R := fun r s' => match r with | Except.ok f => SP X pins D' f s' | Except.error e => cameBackBy (model X.prog X.w) X.A X.env X.xe e s') ?_ (fun r s' q => by
    cases r with
    | ok f => exact hD f s' q
    | error e => exact q)
  have stat : ∀ {H' : Hp}, (∀ b ∈ fp, H' b = none) → ∀ b ∈ fp, FpOk X pins H' b := fun hn b hb => ⟨hn b hb, (f2 b hb).2⟩
  refine codeAny_forLoop_any (fun n s' => ∃ i σ' H', Inv X pins σ' H' s' ∧ tn i s'.heap ∧ (∀ b ∈ fp, H' b = none) ∧ W i n σ' H') ?_ m0 ⟨0, σ, H2, I2, st2, fun b hb => (f2 b hb).1, w0⟩
  rintro n s3 ⟨i, σ3, H3, I3, st3, fr3, w3⟩
  rcases turn i n σ3 H3 w3 with ⟨stop, qn⟩ | ⟨go, N, hN, step⟩
  · refine wpAny_passesOwn hp (thn (T.done X rfl rfl rfl hc i pins s3 σ3 H3 X.xe I3 (stat fr3) st3 stop) fun r s4 ⟨hr, I4⟩ => ?_)
    subst hr
    exact wpAny_execs_nil ⟨σ3, H3, I4, qn⟩
  · refine wpAny_passesOwn hp (thn (T.item X rfl rfl rfl hc i pins s3 σ3 H3 X.xe I3 (stat fr3) st3 go) fun r s4 ⟨u, hr, h4⟩ => ?_)
    subst hr
    refine wpAny_passesOwn hp (thn h4 fun _ s5 ⟨x, H5, I5, r5, y5, st5, fr5⟩ => ?_)
    have I5' := I5.pinned (stat fr5) (T.obj _ _ st5)
    refine wpAny_passesOwn hp (thn (hg _ s5 σ3 H5 x u _ I5' r5 (step x H5 y5)) fun _ s6 ⟨σ6, H6, I6, q6⟩ => ?_)
    refine wpAny_passesOwn hp (thn (hb _ s6 σ6 H6 _ I6 q6) fun f s7 q7 => ?_)
    have again : ∀ {σ7 : St} {H7 : Hp}, Inv X (pins ++ pinsAt fp s5.heap) σ7 H7 s7 → N σ7 H7 → ∃ m, m < n ∧ ∃ i σ' H', Inv X pins σ' H' s7 ∧ tn i s7.heap ∧ (∀ b ∈ fp, H' b = none) ∧ W i m σ' H' := fun {σ7 H7} I7 n7 => by
      obtain ⟨m', hm, w7⟩ := hN σ7 H7 n7
      refine ⟨m', hm, i + 1, σ7, H7, I7.unpinned, T.keep _ _ _ st5 fun b hb o e => (I7.pin (b, o) (List.mem_append_right _ (List.mem_append_right _ (mem_pinsAt hb e)))).1, fun b hb => ?_, w7⟩
      obtain ⟨o, e, d⟩ := T.obj _ _ st5 b hb
      exact (I7.pin (b, o) (List.mem_append_right _ (List.mem_append_right _ (mem_pinsAt hb e)))).2.1
    cases f with
    | next => obtain ⟨σ7, H7, I7, n7⟩ := q7; exact again I7 n7
    | cont => obtain ⟨σ7, H7, I7, n7⟩ := q7; exact again I7 n7
    | brk => obtain ⟨σ7, H7, I7, q7⟩ := q7; exact ⟨σ7, H7, I7.unpinned, q7⟩
    | ret v => obtain ⟨x7, σ7, H7, I7, r7, q7⟩ := q7; exact ⟨x7, σ7, H7, I7.unpinned, r7, q7⟩
/-- the iterator of a dict's keys is made -/
theorem keys_made {pins : List (Addr × Obj)} {s1 : Shared} {σ : St} {H1 : Hp} {a : Addr} {kvs : List (Key × V)} {R : It → Hp → Prop} {E : Value → Shared → Prop} (I1 : Inv X pins σ H1 s1) (hq : Rd H1 a (.dK kvs))
    (q : ∀ o H2, Fzn a o kvs H1 H2 → (H1 a = some (.dK kvs) → ∀ o u, X.H₀ a ≠ some (.frz o u)) → R (Itd a o kvs) H2) : wpAny (model X.prog X.w) X.A (pyIter (.ref a)) (PIE X pins σ tg R) E s1 := by
  obtain ⟨o, H2, fz, I2⟩ := I1.fzn hq
  obtain ⟨m, vs, ep, rel, da, es, ho⟩ := frz_at I2 fz.1
  have hlen := Paired.length rel
  refine wpAny_pyIter_dict m da ?_
  rw [← hlen]
  refine ⟨s1.heap.objs.size, [s1.heap.objs.size], _, _, H2, rfl, I2.kept (t' := s1.toks) fun b o e => Heap.get?_push_of_some _ e, turn_keys a _ kvs ho, ⟨_, Heap.get?_push_size _ rfl, rfl, rfl⟩, fun b hb => ?_, q o H2 fz (fun hd o u z => ?_)⟩
  · have e : b = s1.heap.objs.size := by simpa using hb
    subst e
    exact I2.fpOk (Nat.le_refl _) (I2.hok.fresh (Nat.le_refl _))
  · have := I1.base.frzs a o u z
    rw [hd] at this
    cases this
theorem ps_forD {iter : Expr} {body : List Stmt} {te : TE} {g : TG} {tb : TS} {pos : Pos} (hp : PassesOwn (model X.prog X.w) X.A X.env X.xe) (hc : X.calm = true) (hi : PE X iter te) (hg : PG X tg g) (hb : PSs X body tb)
    (hs : ∀ x, foldedSetIterable iter X.env x = pure x := by intro _; rfl) : PS X (.For tg iter body [] pos) (tForD te g tb) := by
  intro pins s σ H D I h
  refine for_gen (σ := σ) hp hc hg hb (thn (hi pins s σ H _ I h) fun v s1 ⟨x, H1, I1, r1, q1⟩ => ?_) hs
  obtain ⟨a, kvs, e, hr, q⟩ := q1
  subst e
  cases r1
  exact keys_made I1 hr fun o H2 fz h0 => ⟨thawE a o kvs H1 D, fun f s' => SP.thaw h0, q o H2 fz⟩

/-- all but the dict at a, which is held fast, is as in H1 -/
structure Fs (o : Obj) (a : Addr) (kvs : List (Key × V)) (H1 H : Hp) : Prop where
  rest : ∀ b ob, b ≠ a → H1 b = some ob → H b = some ob
  held : H a = some (.frz o (.dK kvs))
theorem Fs.sm {o : Obj} {a : Addr} {kvs : List (Key × V)} {H1 H : Hp} (f : Fs o a kvs H1 H) (h : Rd H1 a (.dK kvs)) : Sm H1 H := by
  have key : ∀ (b : Addr) (u : HO), (∀ z, u ≠ .frz z (.dK kvs)) → Rd H1 b u → (b = a → u = .dK kvs) → Rd H b u := fun b u _ hr hb => by
    by_cases e : b = a
    · subst e; rw [hb rfl]; exact .inr ⟨o, f.held⟩
    · rcases hr with q | ⟨z, q⟩
      · exact .inl (f.rest b _ e q)
      · exact .inr ⟨z, f.rest b _ e q⟩
  have same : ∀ {u : HO}, (∀ z y, u ≠ .frz z y) → Rd H1 a u → u = .dK kvs := fun {u} nu hr => by
    rcases hr with q | ⟨z, q⟩ <;> rcases h with q' | ⟨z', q'⟩ <;> rw [q] at q'
    · exact Option.some.inj q'
    · exact absurd (Option.some.inj q') (nu _ _)
    · cases q'
    · cases q'; rfl
  exact ⟨fun b xs hr => key b _ (by simp) hr fun e => same (by simp) (e ▸ hr), fun b xs hr => key b _ (by simp) hr fun e => same (by simp) (e ▸ hr), fun b xs hr => key b _ (by simp) hr fun e => same (by simp) (e ▸ hr)⟩
theorem Fs.of {o : Obj} {a : Addr} {kvs : List (Key × V)} {H1 H2 : Hp} (f : Fzn a o kvs H1 H2) : Fs o a kvs H1 H2 := by
  obtain ⟨h, e | ⟨e1, e2⟩⟩ := f
  · subst e; exact ⟨fun _ _ _ q => q, h⟩
  · subst e2; exact ⟨fun b ob n q => by rw [upd_ne n]; exact q, h⟩
theorem Fs.same {o : Obj} {a : Addr} {kvs : List (Key × V)} {H1 H H' : Hp} (f : Fs o a kvs H1 H) (e : Same H H') : Fs o a kvs H1 H' := ⟨fun b ob n q => e _ _ (f.rest b ob n q), e _ _ f.held⟩
theorem Fs.upd {o : Obj} {a l : Addr} {u : HO} {kvs : List (Key × V)} {H1 H : Hp} (f : Fs o a kvs H1 H) (h1 : H1 l = none) (h2 : l ≠ a) : Fs o a kvs H1 (L2.upd H l u) :=
  ⟨fun b ob n q => by rw [upd_ne (ne_of_none q h1)]; exact f.rest b ob n q, by rw [upd_ne h2.symm]; exact f.held⟩
theorem Fs.thaw {o : Obj} {a : Addr} {kvs : List (Key × V)} {H1 H H' : Hp} (f : Fs o a kvs H1 H) (hr : Rd H1 a (.dK kvs)) (fz : ∃ H2, Fzn a o kvs H1 H2) (t : Thw a o kvs H1 H H') : Same H1 H' ∧ ∀ b, b ≠ a → H' b = H b := by
  rcases t with ⟨e, rfl⟩ | ⟨e, rfl⟩
  · refine ⟨fun b ob q => ?_, fun b n => upd_ne n⟩
    by_cases hb : b = a
    · subst hb; rw [upd_same]; rw [e] at q; exact q
    · rw [upd_ne hb]; exact f.rest b ob hb q
  · refine ⟨fun b ob q => ?_, fun _ _ => rfl⟩
    by_cases hb : b = a
    · subst hb
      obtain ⟨H2, h2, c | ⟨c, _⟩⟩ := fz
      · subst c; rw [h2] at q; rw [← q]; exact f.held
      · exact absurd c e
    · exact f.rest b ob hb q
theorem thaw_rt {o : Obj} {a : Addr} {kvs : List (Key × V)} {H1 H H2 : Hp} {D : Ends} {v : V} (hr : Rd H1 a (.dK kvs)) (fz : Fzn a o kvs H1 H2) (f : Fs o a kvs H1 H) (h : ∀ H', Same H1 H' → (∀ b, b ≠ a → H' b = H b) → D.rt v H') : (thawE a o kvs H1 D).rt v H :=
  ⟨f.held, fun H3 t => let ⟨s1, s2⟩ := f.thaw hr ⟨_, fz⟩ t; h H3 s1 s2⟩
/-- a loop over a dict's keys that leaves all that was there as it was -/
theorem forD {o : Obj} {a : Addr} {kvs : List (Key × V)} {H1 H2 : Hp} {g : TG} {tb : TS} {D : Ends} {σ : St} (hr : Rd H1 a (.dK kvs)) (fz : Fzn a o kvs H1 H2) (Pv : Nat → St → Hp → Prop) (h0 : Pv 0 σ H1)
    (hz : ∀ i σ H H', (∀ b, b ≠ a → H' b = H b) → Pv i σ H → Pv i σ H')
    (hs : ∀ i k v σ H, kvs[i]? = some (k, v) → Fs o a kvs H1 H → Pv i σ H → g (kV k) σ H fun σ2 H2 => tb
      { nx := fun σ H => Fs o a kvs H1 H ∧ Pv (i + 1) σ H, ct := fun σ H => Fs o a kvs H1 H ∧ Pv (i + 1) σ H, bk := (thawE a o kvs H1 D).nx, rt := (thawE a o kvs H1 D).rt } σ2 H2)
    (hd : ∀ σ H, Same H1 H → Pv kvs.length σ H → D.nx σ H) : LoopVC (Itd a o kvs) g tb (thawE a o kvs H1 D) σ H2 := by
  have p2 : Pv 0 σ H2 := hz 0 σ H1 H2 (by
    obtain ⟨_, e | ⟨_, e⟩⟩ := fz
    · subst e; exact fun _ _ => rfl
    · subst e; exact fun b n => upd_ne n) h0
  refine ⟨fun i m σ H => m = kvs.length - i ∧ i ≤ kvs.length ∧ Fs o a kvs H1 H ∧ Pv i σ H, ⟨kvs.length, by simp, Nat.zero_le _, Fs.of fz, p2⟩, ?_⟩
  rintro i m σ H ⟨rfl, hi, fs, p⟩
  by_cases hlt : i < kvs.length
  · refine .inr ⟨⟨fs.held, hlt⟩, fun σ' H' => Fs o a kvs H1 H' ∧ Pv (i + 1) σ' H', fun σ' H' q => ⟨kvs.length - (i + 1), by omega, rfl, hlt, q.1, q.2⟩, ?_⟩
    rintro x H' ⟨rfl, k, v, hx, rfl⟩
    exact hs i k v σ H' hx fs p
  · have e : i = kvs.length := by omega
    subst e
    exact .inl ⟨⟨fs.held, Nat.le_refl _⟩, fs.held, fun H3 t => let ⟨s1, s2⟩ := fs.thaw hr ⟨_, fz⟩ t; hd σ H3 s1 (hz _ _ _ _ s2 p)⟩
end
end L2

set_option Elab.async false
set_option linter.all false
set_option maxRecDepth 100000
/-! BUILT-IN functions and methods (own work) -/
namespace L2
open PySem PySem.Spec PyProof.Rows

/-! ### isinstance -/
def D.ty : D → String
  | .non => "NoneType" | .bl _ => "bool" | .int _ => "int" | .str _ => "str" | .lst _ => "list" | .tup _ => "tuple" | .dct _ => "dict"
def isiB (a b : String) : Bool := a == b || (a == "bool" && b == "int")
def tyOk (b : String) : Bool := ["bool", "int", "str", "list", "tuple", "dict"].contains b
section
variable {X : Cx}
theorem kit_of (K : PySem.W.Frag) (d : D) {b : String} (h : tyOk b = true) : PySem.W.kitOne K (.type d.ty) (.type b) = some (isiB d.ty b) := by
  have hb : b = "bool" ∨ b = "int" ∨ b = "str" ∨ b = "list" ∨ b = "tuple" ∨ b = "dict" := by simpa [tyOk] using h
  rcases hb with rfl | rfl | rfl | rfl | rfl | rfl <;> cases d <;> (show PySem.W.kitOne K (.type _) (.type _) = some _) <;> with_unfolding_all rfl
theorem isi_rep {pins : List (Addr × Obj)} {σ : St} {H : Hp} {s : Shared} {A : Around} {E : Value → Shared → Prop} {Q : Value → Shared → Prop} {x : V} {u : Value} {d : D} {b : String} (I : Inv X pins σ H s) (rx : RelV x u) (r : Rep X.K H x d) (h : tyOk b = true)
    (q : ∀ tk, Q (.bool (isiB d.ty b)) { s with toks := tk }) : wpAny (model X.prog X.w) A (call (.builtin "isinstance") [u, .type b]) Q E s := by
  have e := kit_of X.K d h
  cases r with
  | non => cases rx; exact PySem.W.kia_one PySem.W.kitx_none I.kIn True.intro e (fun z => nomatch z) q
  | bl y => cases rx; exact PySem.W.kia_one PySem.W.kitx_bool I.kIn True.intro e (fun z => nomatch z) q
  | int i => obtain ⟨t, rfl⟩ := rx; exact PySem.W.kia_one PySem.W.kitx_int I.kIn True.intro e (fun z => nomatch z) q
  | str y => obtain ⟨t, rfl⟩ := rx; exact PySem.W.kia_one PySem.W.kitx_str I.kIn True.intro e (fun z => nomatch z) q
  | lst hq _ =>
    cases rx
    obtain ⟨its, _, ⟨o, n, h1, h2, _⟩, _⟩ := I.list hq
    exact PySem.W.kia_one PySem.W.kitx_list I.kIn ⟨o, h1, h2⟩ e (fun z => nomatch z) q
  | tup hq _ =>
    cases rx
    obtain ⟨its, _, ⟨o, h1, h2, _⟩, _⟩ := I.tuple hq
    exact PySem.W.kia_one PySem.W.kitx_tuple I.kIn ⟨o, h1, h2⟩ e (fun z => nomatch z) q
  | dct hq _ =>
    cases rx
    obtain ⟨_, _, vs, _, o, es, ep, h1, h2, _⟩ := dk_rd I.hok hq
    exact PySem.W.kia_one PySem.W.kitx_dict I.kIn ⟨o, h1, h2.1⟩ e (fun z => nomatch z) q
/-- isinstance(x, T) of data -/
theorem call_isi : CallR X (.builtin "isinstance") (fun xs H Q => ∃ x d b, xs = [x, .ty b] ∧ Rep X.K H x d ∧ tyOk b = true ∧ Q (.bl (isiB d.ty b)) H) := by
  rintro pins s σ H xs us Q I r ⟨x, d, b, rfl, rd, hb, q⟩
  obtain ⟨u, v, rfl, ru, rv⟩ := vals2 r
  cases rv
  exact isi_rep I ru rd hb fun tk => ⟨.bl _, H, I.tok tk, rfl, q⟩

/-! ### all(list of bools) -/
end
end L2

set_option Elab.async false
set_option linter.all false
set_option maxRecDepth 100000
namespace L2
open PySem PySem.Spec PyProof.Rows
/-! ### the order of texts -/
def sLt (a b : Str) : Prop := a.cps.toList < b.cps.toList
def sLe (a b : Str) : Prop := a.cps.toList ≤ b.cps.toList
instance (a b : Str) : Decidable (sLt a b) := inferInstanceAs (Decidable (a.cps.toList < b.cps.toList))
instance (a b : Str) : Decidable (sLe a b) := inferInstanceAs (Decidable (a.cps.toList ≤ b.cps.toList))
theorem Str.ext' {a b : Str} (h : a.cps.toList = b.cps.toList) : a = b := by
  obtain ⟨x⟩ := a; obtain ⟨y⟩ := b
  have : x = y := by obtain ⟨x⟩ := x; obtain ⟨y⟩ := y; exact congrArg Array.mk h
  rw [this]
theorem sLe_trans {a b c : Str} (h : sLe a b) (h' : sLe b c) : sLe a c := List.le_trans h h'
theorem sLe_antisymm {a b : Str} (h : sLe a b) (h' : sLe b a) : a = b := Str.ext' (List.le_antisymm h h')
theorem sLe_total (a b : Str) : sLe a b ∨ sLe b a := List.le_total _ _
theorem sLt_irrefl (a : Str) : ¬ sLt a a := List.lt_irrefl _
theorem sLt_iff {a b : Str} : sLt a b ↔ ¬ sLe b a := by unfold sLt sLe; exact List.not_le.symm
theorem sLt_trans {a b c : Str} (h : sLt a b) (h' : sLt b c) : sLt a c := List.lt_trans h h'
theorem sLt_of_le_ne {a b : Str} (h : sLe a b) (n : a ≠ b) : sLt a b := sLt_iff.mpr fun h' => n (sLe_antisymm h h')
theorem sLt_or {a b : Str} : sLt a b ∨ a = b ∨ sLt b a := by
  by_cases e : a = b
  · exact .inr (.inl e)
  · rcases sLe_total a b with h | h
    · exact .inl (sLt_of_le_ne h e)
    · exact .inr (.inr (sLt_of_le_ne h (fun q => e q.symm)))
def sortS (l : List Str) : List Str := l.mergeSort fun a b => decide (sLe a b)
theorem sortS_perm (l : List Str) : (sortS l).Perm l := List.mergeSort_perm _ _
theorem sortS_pw (l : List Str) : (sortS l).Pairwise sLe := by
  have := List.pairwise_mergeSort (le := fun a b => decide (sLe a b)) (fun a b c h1 h2 => decide_eq_true (sLe_trans (of_decide_eq_true h1) (of_decide_eq_true h2))) (fun a b => by
    rcases sLe_total a b with h | h <;> simp [h]) l
  exact this.imp fun h => of_decide_eq_true h
theorem sortS_eq {l l' : List Str} (p : l'.Perm l) (h : l'.Pairwise sLe) : l' = sortS l :=
  List.Perm.eq_of_pairwise (fun _ _ _ _ => sLe_antisymm) h (sortS_pw l) (p.trans (sortS_perm l).symm)
theorem sortS_len (l : List Str) : (sortS l).length = l.length := (sortS_perm l).length_eq
theorem mem_sortS {l : List Str} {x : Str} : x ∈ sortS l ↔ x ∈ l := (sortS_perm l).mem_iff
theorem sortS_nodup {l : List Str} (h : l.Nodup) : (sortS l).Nodup := (sortS_perm l).nodup_iff.mpr h
theorem rising_pw : ∀ (p : Str) (l : List Str), risingS p l = true → (∀ x ∈ l, sLe p x) ∧ l.Pairwise sLe
  | _, [], _ => ⟨fun _ h => absurd h (by simp), List.Pairwise.nil⟩
  | p, x :: r, h => by
    simp only [risingS, Bool.and_eq_true, Bool.not_eq_true'] at h
    obtain ⟨h1, h2⟩ := h
    obtain ⟨i1, i2⟩ := rising_pw x r h2
    have hx : sLe p x := by
      rw [ltCps_eq] at h1
      exact List.not_lt.mp (of_decide_eq_false h1)
    exact ⟨fun y hy => (List.mem_cons.mp hy).elim (fun e => e ▸ hx) fun m => sLe_trans hx (i1 y m), List.pairwise_cons.mpr ⟨i1, i2⟩⟩
theorem sortedS_pw {l : List Str} (h : sortedS l = true) : l.Pairwise sLe := by
  cases l with
  | nil => exact List.Pairwise.nil
  | cons x r => obtain ⟨i1, i2⟩ := rising_pw x r h; exact List.pairwise_cons.mpr ⟨i1, i2⟩

section
variable {X : Cx}
theorem strsAre_of : ∀ {ss : List Str} {us : List Value}, Vals (ss.map V.str) us → StrsAre us ss
  | [], _, h => by cases h; exact .nil
  | s :: r, _, h => by
    cases h with
    | cons h t => obtain ⟨tk, rfl⟩ := h; exact .cons _ _ (strsAre_of t)
theorem of_strsAre : ∀ {ss : List Str} {us : List Value}, StrsAre us ss → Vals (ss.map V.str) us
  | _, _, .nil => .nil
  | _, _, .cons _ t h => .cons ⟨t, rfl⟩ (of_strsAre h)
theorem lenS {n : Nat} (h : n < 64) : n ≤ sizeLine := Nat.le_of_lt (small1000 (by omega))
/-- sorted(list of texts) -/
theorem call_sortedL : CallR X (.builtin "sorted") (fun xs H Q => ∃ (a : Addr) (ss : List Str), xs = [.ref a] ∧ SqL X.K H a (ss.map V.str) ∧ ss.length < 64 ∧ ∀ p, H p = none → Q (.ref p) (upd H p (.lst ((sortS ss).map V.str)))) := by
  rintro pins s σ H xs us Q I r ⟨a, ss, rfl, hq, h64, q⟩
  obtain ⟨u, rfl, ru⟩ := vals1 r
  cases ru
  obtain ⟨its, rv, p, hz⟩ := I.list hq
  have hl := rv.length
  rw [List.length_map] at hl
  refine sorted_strs p.isList (strsAre_of rv) (by omega) fun out ss' ho hp hs => ?_
  have e := sortS_eq hp (sortedS_pw hs)
  subst e
  obtain ⟨ep, eo⟩ := sortedAll_at s.heap its out
  have hn : H (s.heap.objs.size + 1) = none := I.hok.fresh (Nat.le_succ _)
  refine ⟨.ref (s.heap.objs.size + 1), _, ?_, rfl, q _ hn⟩
  refine I.laid (t' := s.toks) (fun b o e => sortedAll_old e) (Nat.le_succ _) ?_
  refine ⟨by rw [List.length_map, sortS_len]; exact lenS h64, out.toList, ep, of_strsAre ho, ?_⟩
  rw [eo]
/-- what stands in a list that is made of a source: the collected things -/
theorem collect_src {prog : Program} {w : World} {A : Around} {E : Value → Shared → Prop} {s : Shared} {T : String} {r d : Addr} {n : Nat} {P : Nat → Value → Prop} {OK : Heap → Prop} {Q : List Value → Shared → Prop} (K : PySem.W.KdlSrc prog w T r d n P OK) (hh : A.handled = none) (hok : OK s.heap) (hn : n ≤ sizeLine)
    (h : ∀ (h' : Heap) (tk : Nat) (vs : List Value), (∀ b o, s.heap.get? b = some o → h'.get? b = some o) → vs.length = n → (∀ i v, vs[i]? = some v → P i v) → Q vs { s with heap := h', toks := tk }) : wpAny (model prog w) A (collect (.ref r)) Q E s := by
  have hlt := K.there _ hok
  unfold collect
  refine wpAny_bind (wpAny_runValue (codeAny_builtin F.entry_proto_collect ?_))
  rw [Around.under_plainId F.plain_proto_collect _]
  show wpAny _ A.in1 (newList [] >>= fun l => again (.builtin "list.__iadd__" ⟨[l, .ref r], []⟩)) _ _ s
  refine wpAny_bind (wpAny_newObj_type (wpAny_pure ⟨plainId_quiet F.plain_list_iadd _, codeAny_builtin F.entry_list_iadd ?_⟩))
  rw [Around.under_plainId F.plain_list_iadd _]
  show wpAny _ A.in1 (Builtin.List.listExtendWith (.ref s.heap.objs.size) (.ref r) (.ref s.heap.objs.size)) _ _ _
  have hS : (s.heap.push { cls := .type "list", data := .seq ([] : List Value).toArray }).get? s.heap.objs.size = some { cls := .type "list", data := .seq #[] } := Heap.get?_push_size _ rfl
  refine PySem.W.kdl_extend (R := fun r s' => match r with
      | .ok (.ret v) => wpAny (model prog w) A (match v with
        | .ref a => (do
          let o ← load a
          match o.data with
          | .seq xs _ => pure xs.toList
          | _ => unsupported "internal:collect")
        | _ => unsupported "internal:collect") Q E s'
      | .ok _ => False
      | .error e => E e s') (A := A) (s := { s with heap := s.heap.push { cls := .type "list", data := .seq ([] : List Value).toArray } }) K hh (K.keep _ _ hok fun b _ o e => Heap.get?_push_of_some _ e) _ (Nat.ne_of_gt hlt.1) (Nat.ne_of_gt hlt.2) _ _ hS (fun h' tk acc c hk hS' hacc => ?_) hn
  refine wpAny_bind (wpAny_load hS' ?_)
  refine wpAny_pure (h h' tk acc.toList (fun b o e => hk b o (Nat.ne_of_lt (Heap.lt_size e)) (Heap.get?_push_of_some _ e)) (by rw [Array.length_toList]; exact hacc.1) fun i v e => hacc.2 i v (by rw [← Array.getElem?_toList]; exact e))
/-- a list of texts that was collected, sorted -/
theorem sorted_by {pins : List (Addr × Obj)} {σ : St} {H : Hp} {s : Shared} {v : Value} {ss : List Str} {Q : VK} (I : Inv X pins σ H s) (h64 : ss.length < 64)
    (hc : ∀ (R : List Value → Shared → Prop), (∀ (h' : Heap) (tk : Nat) (vs : List Value), (∀ b o, s.heap.get? b = some o → h'.get? b = some o) → StrsAre vs ss → R vs { s with heap := h', toks := tk }) → wpAny (model X.prog X.w) X.A.in1 (collect v) R X.xe s)
    (q : ∀ p, H p = none → Q (.ref p) (upd H p (.lst ((sortS ss).map V.str)))) : wpAny (model X.prog X.w) X.A (call (.builtin "sorted") [v]) (EP X pins σ Q) X.xe s := by
  refine Calls.call_function_entry kind_sorted plain_sorted entry_sorted (args_sorted1 _) ?_
  unfold Builtin.«sorted»
  refine wpAny_bind (m := checkCount "sorted" 1 1 _) (wpAny_pure ?_)
  refine wpAny_bind (hc _ fun h1 tk vs hk hS => ?_)
  have hlen : vs.length = ss.length := by
    have := congrArg List.length hS.strs
    simpa using this
  refine wpAny_bind (wpAny_newList ?_)
  have hoL : (h1.push (seqObj "list" vs.toArray 0)).get? h1.objs.size = some (seqObj "list" vs.toArray 0) := Heap.get?_push_size _ rfl
  refine wpAny_bind (wpAny_holding (wpAny_call_entry slot_list_sort ⟨_, hoL, rfl⟩ entry_list_sort (list_sort_treeK strKind_oneLt hoL hS.keysOf (fun v₁ v₂ rest e => keyKind_strs (by rw [← e]; exact hS)) (by omega) fun st' a1 a2 => ⟨_, rfl, ?_⟩) (args_list_sort _)))
  obtain ⟨ss', b1, b2, b3⟩ := sorted_out_str hS a1 a2
  have e := sortS_eq b2 (sortedS_pw b3)
  subst e
  have I1 : Inv X pins σ H { s with heap := h1, toks := tk } := I.kept hk
  have hn : H h1.objs.size = none := I1.hok.fresh (Nat.le_refl _)
  obtain ⟨ep, eo⟩ := sortedHeap_at (out := (arrOf st').map (·.2)) hoL
  refine wpAny_pure ⟨_, rfl, .ref h1.objs.size, _, ?_, rfl, q _ hn⟩
  refine I1.laid (t' := tk) (fun b o e => ?_) (Nat.le_refl _) ⟨by rw [List.length_map, sortS_len]; exact lenS h64, ((arrOf st').map (·.2)).toList, ep, of_strsAre b1, ?_⟩
  · have hb := Heap.lt_size e
    rw [sortedHeap_old (Nat.ne_of_lt hb) (Nat.lt_of_lt_of_le hb (by rw [Heap.size_push]; exact Nat.le_succ _))]
    exact Heap.get?_push_of_some _ e
  · rw [eo]
theorem walked_strs : ∀ {ss : List Str} {vs : List Value}, vs.length = ss.length → (∀ (i : Nat) (v : Value), vs[i]? = some v → ∃ x, ss[i]? = some x ∧ ∃ t, v = Value.str x t) → StrsAre vs ss
  | [], [], _, _ => .nil
  | [], _ :: _, h, _ => by simp at h
  | _ :: _, [], h, _ => by simp at h
  | x :: r, v :: vs, h, q => by
    obtain ⟨y, e, t, rfl⟩ := q 0 v rfl
    simp at e
    subst e
    exact .cons _ t (walked_strs (by simpa using h) fun i u e => by simpa using q (i + 1) u (by simpa using e))
/-- the keys of a dict of texts -/
def keysS (kvs : List (Key × V)) (ks : List Str) : Prop := kvs.map (·.1) = ks.map Sum.inr
theorem keysS.get {kvs : List (Key × V)} {ks : List Str} (h : keysS kvs ks) {i : Nat} {k : Key} {v : V} (e : kvs[i]? = some (k, v)) : ∃ x, ks[i]? = some x ∧ k = Sum.inr x := by
  have : (kvs.map (·.1))[i]? = some k := by rw [List.getElem?_map, e]; rfl
  rw [h, List.getElem?_map] at this
  cases q : ks[i]? with
  | none => rw [q] at this; cases this
  | some x => rw [q] at this; exact ⟨x, rfl, (Option.some.inj this).symm⟩
theorem keysS.length {kvs : List (Key × V)} {ks : List Str} (h : keysS kvs ks) : kvs.length = ks.length := by
  have := congrArg List.length h
  simpa using this
theorem dict_src {pins : List (Addr × Obj)} {σ : St} {H : Hp} {s : Shared} {a : Addr} {kvs : List (Key × V)} (I : Inv X pins σ H s) (h : Rd H a (.dK kvs)) :
    kvs.length ≤ sizeLine ∧ ∃ vs ep, KV kvs vs ∧ s.heap.DictAt (mixKind X.prog X.w) a vs ep ∧ PySem.W.KdlSrc X.prog X.w "dict" a a vs.length (fun i v => ∃ k x, vs[i]? = some (k, x) ∧ (mixKind X.prog X.w).is k v = true) (fun h => h.DictAt (mixKind X.prog X.w) a vs ep) := by
  obtain ⟨z, m, vs, rel, dd⟩ := dk_rd I.hok h
  obtain ⟨ep, da⟩ := dd.dictAt
  exact ⟨z, vs, ep, rel, da, PySem.W.kdl_dict m⟩
/-- sorted(dict whose keys are texts) -/
theorem call_sortedD : CallR X (.builtin "sorted") (fun xs H Q => X.calm = true ∧ ∃ (a : Addr) (kvs : List (Key × V)) (ks : List Str), xs = [.ref a] ∧ Rd H a (.dK kvs) ∧ keysS kvs ks ∧ ks.length < 64 ∧ ∀ p, H p = none → Q (.ref p) (upd H p (.lst ((sortS ks).map V.str)))) := by
  rintro pins s σ H xs us Q I r ⟨hc, a, kvs, ks, rfl, hr, hk, h64, q⟩
  obtain ⟨u, rfl, ru⟩ := vals1 r
  cases ru
  obtain ⟨z, vs, ep, rel, da, src⟩ := dict_src I hr
  have hl := Paired.length rel
  refine sorted_by I h64 (fun R hR => collect_src src (I.ok.hd hc) da (by omega) fun h' tk us hk' hlen hP => hR h' tk us hk' ?_) q
  refine walked_strs (by have := hk.length; omega) fun i v e => ?_
  obtain ⟨k, x, e1, e2⟩ := hP i v e
  have hi : i < kvs.length := by rw [hl]; exact (List.getElem?_eq_some_iff.mp e1).1
  obtain ⟨⟨k', v'⟩, e3⟩ : ∃ p, kvs[i]? = some p := ⟨kvs[i], by simp [hi]⟩
  obtain ⟨u', e4, _⟩ := KV.get rel e3
  rw [e1] at e4
  cases e4
  obtain ⟨y, e5, rfl⟩ := hk.get e3
  refine ⟨y, e5, ?_⟩
  rcases keyIs_shape (show keyIs (Sum.inr y) v = true from e2) with ⟨i, t, q1, q2⟩ | ⟨y', t, q1, q2⟩
  · cases q1
  · cases q1; exact ⟨t, q2⟩
end
end L2

set_option Elab.async false
set_option linter.all false
set_option maxRecDepth 100000
/-! TEXTS (own work) -/
namespace L2
open PySem PySem.Spec PyProof.Rows PySem.Builtin.Str
/-- the list of a text's signs, and back -/
abbrev cs (x : Str) : List Nat := x.cps.toList
abbrev ofC (l : List Nat) : Str := ⟨l.toArray⟩
theorem cs_ofC (l : List Nat) : cs (ofC l) = l := rfl
theorem cs_len (x : Str) : (cs x).length = x.length := by obtain ⟨x⟩ := x; rfl
theorem cs_append (x y : Str) : cs (x ++ y) = cs x ++ cs y := by
  obtain ⟨x⟩ := x; obtain ⟨y⟩ := y
  show (x ++ y).toList = x.toList ++ y.toList
  simp
/-- x[lo:hi] -/
def cutC {α : Type} (l : List α) (lo hi : Option Int) : List α := (l.drop (HT.sIx l.length 0 lo)).take (HT.sIx l.length l.length hi - HT.sIx l.length 0 lo)
def cutS (x : Str) (lo hi : Option Int) : Str := ofC (cutC (cs x) lo hi)
theorem cutC_len {α : Type} (l : List α) (lo hi : Option Int) : (cutC l lo hi).length ≤ l.length := by
  unfold cutC
  rw [List.length_take, List.length_drop]
  omega
theorem clip1 (lo : Option Int) (n d : Nat) (hd : d ≤ n) : (match lo with | none => (d : Int) | some i => (let i := if i < 0 then i + n else i; if (1 : Int) > 0 then max 0 (min i n) else max (-1) (min i ((n : Int) - 1)))) = ((HT.sIx n d lo : Nat) : Int) := by
  cases lo with
  | none => rfl
  | some i =>
    show (if (1 : Int) > 0 then max 0 (min (if i < 0 then i + (n : Int) else i) n) else _) = _
    rw [if_pos (by decide)]
    unfold HT.sIx
    by_cases h : i < 0
    · simp only [h, if_true]; omega
    · simp only [h, if_false]; omega
theorem indices_cut (lo hi : Option Int) (n : Nat) : strSliceIndices lo hi 1 n = (List.range (HT.sIx n n hi - HT.sIx n 0 lo)).map fun k => HT.sIx n 0 lo + k := by
  have e1 := clip1 lo n 0 (Nat.zero_le _)
  have e2 := clip1 hi n n (Nat.le_refl _)
  have : strSliceIndices lo hi 1 n = sliceRange ((HT.sIx n 0 lo : Nat) : Int) ((HT.sIx n n hi : Nat) : Int) 1 := by
    rw [← e1, ← e2]
    cases lo <;> cases hi <;> rfl
  rw [this]
  unfold sliceRange
  generalize HT.sIx n 0 lo = a
  generalize HT.sIx n n hi = b
  by_cases h : (a : Int) < b
  · simp only [show ((1 : Int) > 0) = True by simp, if_true, h]
    have e3 : (((b : Int) - a + 1 - 1) / 1).toNat = b - a := by omega
    rw [e3]
    apply List.map_congr_left
    intro k _
    omega
  · simp only [show ((1 : Int) > 0) = True by simp, if_true, h, if_false]
    have e3 : b - a = 0 := by omega
    rw [e3]
    rfl
theorem picked_cut (x : Str) (l u : Option (Int × Tok)) : (slicePicked x l u none).filterMap (x.cps[·]?) = cutC (cs x) (l.map (·.1)) (u.map (·.1)) := by
  unfold slicePicked cutC
  show (strSliceIndices (l.map (·.1)) (u.map (·.1)) 1 x.length).filterMap _ = _
  rw [indices_cut, cs_len]
  have hle := HT.sIx_le x.length x.length (Nat.le_refl _) (u.map (·.1))
  generalize HT.sIx x.length 0 (l.map (·.1)) = a at *
  generalize HT.sIx x.length x.length (u.map (·.1)) = b at *
  have e : (fun (i : Nat) => x.cps[i]?) = fun (i : Nat) => (cs x)[i]? := by funext i; simp [cs]
  rw [e]
  by_cases h : a ≤ b
  · exact StrLaws.picks (cs x) (b - a) a (by rw [cs_len]; omega)
  · have e3 : b - a = 0 := by omega
    rw [e3]; simp
section
variable {X : Cx}
/-- x[lo:hi] of a text -/
theorem sl_str : SlR X (fun x lo hi H Q => ∃ z, x = .str z ∧ z.length ≤ sizeLine ∧ Q (.str (cutS z lo hi)) H) := by
  rintro pins s σ H x v vl vu lo hi sl Q I rx hs pl pu ⟨z, rfl, hz, q⟩
  obtain ⟨t, rfl⟩ := rx
  refine ⟨"str", _, PySem.F.slot_str_getitem.lookup, typeIs_str s z t, ?_⟩
  obtain ⟨l, hl1, hl2⟩ : ∃ l : Option (Int × Tok), vl = partValue l ∧ lo = l.map (·.1) := by
    cases pl with
    | none => exact ⟨none, rfl, rfl⟩
    | int i t => exact ⟨some (i, t), rfl, rfl⟩
  obtain ⟨u, hu1, hu2⟩ : ∃ l : Option (Int × Tok), vu = partValue l ∧ hi = l.map (·.1) := by
    cases pu with
    | none => exact ⟨none, rfl, rfl⟩
    | int i t => exact ⟨some (i, t), rfl, rfl⟩
  subst hl1 hl2 hu1 hu2
  refine wpAny_getItem_str_slice (l := l) (u := u) (st := none) hs (by rfl) ?_
  unfold sliceMade
  split
  · rename_i hw
    have hw' : (slicePicked z l u none).length = z.length := by simpa using hw
    have e : cutS z (l.map (·.1)) (u.map (·.1)) = z := by
      have hp := picked_cut z l u
      unfold cutS
      have hlen : (cutC (cs z) (l.map (·.1)) (u.map (·.1))) = cs z := by
        unfold slicePicked at hw'
        rw [show ((none : Option (Int × Tok)).map (·.1)).getD 1 = (1 : Int) from rfl, indices_cut, List.length_map, List.length_range] at hw'
        have h1 := HT.sIx_le z.length z.length (Nat.le_refl _) (u.map (·.1))
        unfold cutC
        rw [cs_len]
        generalize HT.sIx z.length 0 (l.map (·.1)) = a at *
        generalize HT.sIx z.length z.length (u.map (·.1)) = b at *
        have ha : a = 0 ∨ z.length = 0 := by omega
        rcases ha with ha | ha
        · subst ha
          rw [List.drop_zero, List.take_of_length_le (by rw [cs_len]; omega)]
        · have : cs z = [] := List.eq_nil_of_length_eq_zero (by rw [cs_len]; exact ha)
          rw [this]
          simp
      rw [hlen]
    rw [e] at q
    exact ⟨.str z, H, I, ⟨t, rfl⟩, q⟩
  · rw [picked_cut]
    refine ⟨?_, .str _, H, I.tok _, ⟨_, rfl⟩, q⟩
    have := cutC_len (cs z) (l.map (·.1)) (u.map (·.1))
    rw [cs_len] at this
    show (cutC (cs z) (l.map (·.1)) (u.map (·.1))).toArray.size ≤ _
    rw [List.size_toArray]
    omega
/-- sep.join(list of texts) -/
def joinS : Str → List Str → Str := Txt.join
theorem mt_join : MtR X "str.join" (fun x xs H Q => ∃ (sep : Str) (a : Addr) (ss : List Str), x = .str sep ∧ xs = [.ref a] ∧ SqL X.K H a (ss.map V.str) ∧ (ss.map (·.length)).sum + ss.length * sep.length ≤ 16777216 ∧ Q (.str (joinS sep ss)) H) := by
  rintro pins s σ H x xs v us Q I rx rv ⟨sep, a, ss, rfl, rfl, hq, hz, q⟩
  obtain ⟨t, rfl⟩ := rx
  obtain ⟨u, rfl, ru⟩ := vals1 rv
  cases ru
  obtain ⟨its, rr, p, _⟩ := I.list hq
  exact join_list p.isList (by simpa using strsAre_of rr) hz fun t' k => ⟨.str _, H, I.tok _, ⟨_, rfl⟩, q⟩
end
/-- the signs of a text -/
def Its (x : Str) : It := ⟨fun i _ => i < x.length, fun i H v H' => H' = H ∧ ∃ c, (cs x)[i]? = some c ∧ v = .str ⟨#[c]⟩, fun i _ => x.length ≤ i⟩
theorem IsStrIter.at {h h' : Heap} {it : Addr} {ty : String} {x : Str} {t : Tok} {i : Nat} (y : h.IsStrIter it ty x t i) (e : ∀ o, h.get? it = some o → h'.get? it = some o) : h'.IsStrIter it ty x t i := let ⟨o, ho, r⟩ := y; ⟨o, e _ ho, r⟩
def iStr (tl : TE) : TI := fun σ H R => tl σ H fun v H1 => ∃ x, v = .str x ∧ R (Its x) H1
section
variable {X : Cx} {tg : Expr}
end
end L2

set_option Elab.async false
set_option linter.all false
set_option maxRecDepth 100000
namespace L2
open PySem PySem.Spec PyProof.Rows
/-! ### the names of Python's own -/
theorem boot_isinstance' : bootBuiltins "isinstance" = some (.builtin "isinstance") := by decide +kernel
theorem boot_len' : bootBuiltins "len" = some (.builtin "len") := by decide +kernel
theorem boot_max' : bootBuiltins "max" = some (.builtin "max") := by decide +kernel
theorem boot_min' : bootBuiltins "min" = some (.builtin "min") := by decide +kernel
theorem boot_ty_int : bootBuiltins "int" = some (.type "int") := by decide +kernel
theorem boot_ty_bool : bootBuiltins "bool" = some (.type "bool") := by decide +kernel
theorem boot_ty_list : bootBuiltins "list" = some (.type "list") := by decide +kernel
theorem boot_ty_dict : bootBuiltins "dict" = some (.type "dict") := by decide +kernel
/-- a def of the top: how it stands, how it binds, its name -/
structure Top (K : PySem.W.Frag) (mg : Str → Option Value) (nm : Str) (st : Stmt) (ps : List Str) (f : Addr) (fd : FuncData) : Prop where
  fn : Fun K nm nm st f fd
  bd : Binds K fd ps []
  mg : mg nm = some (.ref f)
theorem Top.kp {K : PySem.W.Frag} {mg : Str → Option Value} {nm : Str} {st : Stmt} {ps : List Str} {f : Addr} {fd : FuncData} (T : Top K mg nm st ps f fd) : PySem.W.keepIn K (.ref f) = true := T.fn.kp
section
variable {X : Cx}
/-- for v in d.values(): as over the keys -/
def tForV (te : TE) (g : TG) (tb : TS) : TS := fun D σ H => te σ H fun x H1 => ∃ a kvs, x = .ref a ∧ Rd H1 a (.dK kvs) ∧ ∀ o H2, Fzn a o kvs H1 H2 → LoopVC (Itv a o kvs) g tb (thawE a o kvs H1 D) σ H2
end
section
variable {X : Cx} {tg : Expr}
end
end L2

set_option Elab.async false
set_option linter.all false
set_option maxRecDepth 100000
/-! NETS: dicts of dicts of ints, with texts as keys (own work) -/
namespace L2
open PySem PySem.Spec PyProof.Rows
abbrev Row := List (Str × Int)
def look (l : Row) (k : Str) : Option Int := (l.find? fun e => decide (e.1 = k)).map (·.2)
def put (l : Row) (k : Str) (v : Int) : Row := if (l.any fun e => decide (e.1 = k)) = true then l.map (fun e => if e.1 = k then (e.1, v) else e) else l ++ [(k, v)]
def encI (l : Row) : List (Key × V) := l.map fun e => (Sum.inr e.1, .int e.2)
def rowD (l : Row) : D := .dct (l.map fun e => (Sum.inr e.1, .int e.2))
theorem look_nil (k : Str) : look [] k = none := rfl
theorem look_cons (x : Str) (y : Int) (r : Row) (k : Str) : look ((x, y) :: r) k = if x = k then some y else look r k := by
  unfold look
  rw [List.find?_cons]
  by_cases h : x = k
  · rw [decide_eq_true h, if_pos h]; rfl
  · rw [decide_eq_false h, if_neg h]
theorem any_look (l : Row) (k : Str) : (l.any fun e => decide (e.1 = k)) = (look l k).isSome := by
  induction l with
  | nil => rfl
  | cons e r ih =>
    obtain ⟨x, y⟩ := e
    rw [List.any_cons, look_cons, ih]
    by_cases h : x = k
    · simp [h]
    · simp [h]
theorem look_append (l l' : Row) (k : Str) : look (l ++ l') k = (look l k).or (look l' k) := by
  induction l with
  | nil => simp [look_nil]
  | cons e r ih =>
    obtain ⟨x, y⟩ := e
    rw [List.cons_append, look_cons, look_cons, ih]
    by_cases h : x = k
    · simp [h]
    · simp [h]
theorem look_repl (l : Row) (k : Str) (v : Int) (j : Str) : look (l.map fun e => if e.1 = k then (e.1, v) else e) j = if k = j then (look l k).map (fun _ => v) else look l j := by
  induction l with
  | nil => by_cases h : k = j <;> simp [look_nil, h]
  | cons e r ih =>
    obtain ⟨x, y⟩ := e
    by_cases h : x = k
    · subst h
      rw [List.map_cons, if_pos rfl, look_cons, look_cons, look_cons, ih]
      by_cases h2 : x = j
      · simp [h2]
      · simp [h2]
    · rw [List.map_cons, if_neg h, look_cons, look_cons, look_cons, ih]
      by_cases h2 : x = j
      · subst h2
        have : ¬ k = x := fun q => h q.symm
        simp [h, this]
      · by_cases h3 : k = j
        · simp [h2, h3, h]
        · simp [h2, h3, h]
theorem look_put (l : Row) (k : Str) (v : Int) (j : Str) : look (put l k v) j = if k = j then some v else look l j := by
  unfold put
  rw [any_look]
  cases h : look l k with
  | some w =>
    rw [if_pos (by simp), look_repl, h]
    rfl
  | none =>
    rw [if_neg (by simp), look_append, look_cons, look_nil]
    by_cases c : k = j
    · subst c; simp [h]
    · simp [c]
theorem put_keys_in {l : Row} {k : Str} {v : Int} (h : (look l k).isSome = true) : (put l k v).map (·.1) = l.map (·.1) := by
  unfold put
  rw [any_look, if_pos h, List.map_map]
  apply List.map_congr_left
  intro e _
  show (if e.1 = k then (e.1, v) else e).1 = e.1
  by_cases c : e.1 = k <;> simp [c]
theorem put_keys_new {l : Row} {k : Str} {v : Int} (h : look l k = none) : (put l k v).map (·.1) = l.map (·.1) ++ [k] := by
  unfold put
  rw [any_look, h, if_neg (by simp), List.map_append]
  rfl
theorem look_mem {l : Row} {k : Str} {v : Int} (h : look l k = some v) : (k, v) ∈ l := by
  induction l with
  | nil => cases h
  | cons e r ih =>
    obtain ⟨a, b⟩ := e
    rw [look_cons] at h
    by_cases c : a = k
    · rw [if_pos c] at h; cases h; subst c; exact List.mem_cons_self
    · rw [if_neg c] at h; exact List.mem_cons_of_mem _ (ih h)
theorem mem_look {l : Row} (nd : (l.map (·.1)).Nodup) {k : Str} {v : Int} (h : (k, v) ∈ l) : look l k = some v := by
  induction l with
  | nil => simp at h
  | cons e r ih =>
    obtain ⟨a, b⟩ := e
    have nd' : (a :: r.map (·.1)).Nodup := nd
    obtain ⟨h1, h2⟩ := List.nodup_cons.mp nd'
    rw [look_cons]
    rcases List.mem_cons.mp h with q | q
    · cases q; rw [if_pos rfl]
    · rw [if_neg (fun (c : a = k) => h1 (by rw [c]; exact List.mem_map.mpr ⟨_, q, rfl⟩))]; exact ih h2 q
theorem look_none {l : Row} {k : Str} : look l k = none ↔ k ∉ l.map (·.1) := by
  induction l with
  | nil => simp [look_nil]
  | cons e r ih =>
    obtain ⟨a, b⟩ := e
    rw [look_cons]
    by_cases c : a = k
    · subst c; simp
    · rw [if_neg c, ih]
      have c' : ¬ k = a := fun q => c q.symm
      simp [c']
theorem look_some_iff {l : Row} {k : Str} : (∃ v, look l k = some v) ↔ k ∈ l.map (·.1) := by
  constructor
  · rintro ⟨v, h⟩; exact List.mem_map.mpr ⟨_, look_mem h, rfl⟩
  · intro h
    cases e : look l k with
    | none => exact absurd h (look_none.mp e)
    | some v => exact ⟨v, rfl⟩
/-- rows of the same pairs have as many -/
theorem rows_len {l l' : Row} (n : (l.map (·.1)).Nodup) (n' : (l'.map (·.1)).Nodup) (h : ∀ k, look l k = look l' k) : l.length = l'.length := by
  have p : (l.map (·.1)).Perm (l'.map (·.1)) := (List.perm_ext_iff_of_nodup n n').mpr fun k => by
    rw [← look_some_iff, ← look_some_iff, h]
  simpa using p.length_eq
theorem valV_enc (l : Row) (k : Str) : valV (encI l) (Sum.inr k) = (look l k).map V.int := by
  induction l with
  | nil => rfl
  | cons e r ih =>
    obtain ⟨a, b⟩ := e
    show valV ((Sum.inr a, V.int b) :: encI r) (Sum.inr k) = _
    rw [look_cons]
    by_cases c : a = k
    · subst c; rw [valV_pos rfl, if_pos rfl]; rfl
    · rw [valV_neg (fun q => c (Sum.inr.inj q)), if_neg c]; exact ih
theorem put_keys (l : Row) (k : Str) (v : Int) (x : Str) : x ∈ (put l k v).map (·.1) ↔ x = k ∨ x ∈ l.map (·.1) := by
  rw [← look_some_iff, ← look_some_iff, look_put]
  by_cases h : k = x
  · subst h; simp
  · have h' : ¬ x = k := fun q => h q.symm
    simp [h, h']
theorem put_nodup {l : Row} (k : Str) (v : Int) (h : (l.map (·.1)).Nodup) : ((put l k v).map (·.1)).Nodup := by
  cases e : look l k with
  | some w => rw [put_keys_in (by rw [e]; rfl)]; exact h
  | none => rw [put_keys_new e]; exact nd_snoc h (look_none.mp e)
theorem encI_put (l : Row) (k : Str) (v : Int) : putK (encI l) (Sum.inr k) (.int v) = encI (put l k v) := by
  unfold putK put
  have e1 : ((encI l).any fun kv => decide (kv.1 = (Sum.inr k : Key))) = l.any fun e => decide (e.1 = k) := by
    unfold encI
    rw [List.any_map]
    congr 1
    funext e
    exact key_rr e.1 k
  rw [e1]
  split
  · unfold encI
    rw [List.map_map, List.map_map]
    apply List.map_congr_left
    intro e _
    show (if (Sum.inr e.1 : Key) = Sum.inr k then ((Sum.inr e.1 : Key), V.int v) else (Sum.inr e.1, V.int e.2)) = (Sum.inr (if e.1 = k then (e.1, v) else e).1, V.int (if e.1 = k then (e.1, v) else e).2)
    by_cases c : e.1 = k
    · simp [c]
    · simp [c]
  · unfold encI
    rw [List.map_append]
    rfl
theorem encI_len (l : Row) : (encI l).length = l.length := by simp [encI]
/-- places and their rows -/
abbrev Outer := List (Str × Addr)
def encO (bs : Outer) : List (Key × V) := bs.map fun p => (Sum.inr p.1, .ref p.2)
def addrOf (bs : Outer) (x : Str) : Option Addr := (bs.find? fun e => decide (e.1 = x)).map (·.2)
theorem addrOf_cons (x : Str) (y : Addr) (r : Outer) (k : Str) : addrOf ((x, y) :: r) k = if x = k then some y else addrOf r k := by
  unfold addrOf
  rw [List.find?_cons]
  by_cases h : x = k
  · rw [decide_eq_true h, if_pos h]; rfl
  · rw [decide_eq_false h, if_neg h]
theorem valV_encO (bs : Outer) (k : Str) : valV (encO bs) (Sum.inr k) = (addrOf bs k).map V.ref := by
  induction bs with
  | nil => rfl
  | cons e r ih =>
    obtain ⟨a, b⟩ := e
    show valV ((Sum.inr a, V.ref b) :: encO r) (Sum.inr k) = _
    rw [addrOf_cons]
    by_cases c : a = k
    · subst c; rw [valV_pos rfl, if_pos rfl]; rfl
    · rw [valV_neg (fun q => c (Sum.inr.inj q)), if_neg c]; exact ih
theorem addrOf_mem {bs : Outer} {x : Str} {b : Addr} (h : addrOf bs x = some b) : (x, b) ∈ bs := by
  induction bs with
  | nil => cases h
  | cons e r ih =>
    obtain ⟨a, b'⟩ := e
    rw [addrOf_cons] at h
    by_cases c : a = x
    · rw [if_pos c] at h; cases h; subst c; exact List.mem_cons_self
    · rw [if_neg c] at h; exact List.mem_cons_of_mem _ (ih h)
theorem addrOf_none {bs : Outer} {x : Str} : addrOf bs x = none ↔ x ∉ bs.map (·.1) := by
  induction bs with
  | nil => simp [addrOf]
  | cons e r ih =>
    obtain ⟨a, b⟩ := e
    rw [addrOf_cons]
    by_cases c : a = x
    · subst c; simp
    · rw [if_neg c, ih]
      have c' : ¬ x = a := fun q => c q.symm
      simp [c']
theorem addrOf_some {bs : Outer} {x : Str} (h : x ∈ bs.map (·.1)) : ∃ b, addrOf bs x = some b := by
  cases e : addrOf bs x with
  | none => exact absurd h (addrOf_none.mp e)
  | some b => exact ⟨b, rfl⟩
/-- a net stands at a, to be read -/
structure NetR (H : Hp) (a : Addr) (bs : Outer) (f : Str → Row) : Prop where
  out : Rd H a (.dK (encO bs))
  inn : ∀ p ∈ bs, Rd H p.2 (.dK (encI (f p.1)))
  ks : (bs.map (·.1)).Nodup
/-- .. of which all dicts are apart and not held -/
structure NetAt (H : Hp) (a : Addr) (bs : Outer) (f : Str → Row) : Prop where
  out : H a = some (.dK (encO bs))
  inn : ∀ p ∈ bs, H p.2 = some (.dK (encI (f p.1)))
  ks : (bs.map (·.1)).Nodup
  nd : (a :: bs.map (·.2)).Nodup
theorem NetAt.r {H : Hp} {a : Addr} {bs : Outer} {f : Str → Row} (n : NetAt H a bs f) : NetR H a bs f := ⟨.inl n.out, fun p hp => .inl (n.inn p hp), n.ks⟩
theorem NetR.sm {H H' : Hp} {a : Addr} {bs : Outer} {f : Str → Row} (n : NetR H a bs f) (s : Sm H H') : NetR H' a bs f := ⟨s.dK _ _ n.out, fun p hp => s.dK _ _ (n.inn p hp), n.ks⟩
theorem NetAt.same {H H' : Hp} {a : Addr} {bs : Outer} {f : Str → Row} (n : NetAt H a bs f) (s : Same H H') : NetAt H' a bs f := ⟨s _ _ n.out, fun p hp => s _ _ (n.inn p hp), n.ks, n.nd⟩
theorem NetR.keys {H : Hp} {a : Addr} {bs : Outer} {f : Str → Row} (n : NetR H a bs f) : keysS (encO bs) (bs.map (·.1)) := by
  unfold keysS encO; rw [List.map_map, List.map_map]; rfl
theorem keysS_encI (l : Row) : keysS (encI l) (l.map (·.1)) := by
  unfold keysS encI; rw [List.map_map, List.map_map]; rfl
/-- the data of a net -/
def netD (ks : List Str) (f : Str → Row) : D := .dct (ks.map fun x => (Sum.inr x, rowD (f x)))
theorem RepD.rowI (K : PySem.W.Frag) (H : Hp) : ∀ l : Row, RepD K H (encI l) (l.map fun e => (Sum.inr e.1, D.int e.2))
  | [] => .nil
  | (x, y) :: r => .cons (.int y) (RepD.rowI K H r)
theorem NetR.rep {K : PySem.W.Frag} {H : Hp} {a : Addr} {bs : Outer} {f : Str → Row} (n : NetR H a bs f) : Rep K H (.ref a) (netD (bs.map (·.1)) f) := by
  refine .dct n.out ?_
  have inn := n.inn
  clear n
  induction bs with
  | nil => exact .nil
  | cons p r ih => exact .cons (.dct (inn p List.mem_cons_self) (RepD.rowI K H _)) (ih fun q hq => inn q (List.mem_cons_of_mem _ hq))
theorem lookD_map (g : Str → D) : ∀ (ks : List Str) (x : Str), x ∈ ks → lookD (ks.map fun y => (Sum.inr y, g y)) (Sum.inr x) = some (g x)
  | [], _, h => by simp at h
  | k :: r, x, h => by
    unfold lookD
    rw [List.map_cons, List.find?_cons]
    by_cases c : k = x
    · subst c; simp
    · rw [decide_eq_false (fun q => c (Sum.inr.inj q))]
      exact lookD_map g r x ((List.mem_cons.mp h).resolve_left fun q => c q.symm)
theorem lookD_row : ∀ (l : Row) (x : Str), lookD (l.map fun e => (Sum.inr e.1, D.int e.2)) (Sum.inr x) = (look l x).map D.int
  | [], _ => rfl
  | (a, b) :: r, x => by
    have ih := lookD_row r x
    unfold lookD at ih ⊢
    rw [List.map_cons, List.find?_cons, look_cons]
    by_cases c : a = x
    · subst c; simp
    · rw [if_neg c, decide_eq_false (fun q => c (Sum.inr.inj q))]; exact ih
theorem rowD_deq {l l' : Row} (n : (l.map (·.1)).Nodup) (n' : (l'.map (·.1)).Nodup) (h : ∀ k, look l k = look l' k) : DEq (rowD l) (rowD l') := by
  refine .dct (fun k => match k with | .inl _ => .non | .inr x => .int ((look l' x).getD 0)) ?_ ?_ ?_
  · simpa using rows_len n n' h
  · intro k d hm
    obtain ⟨e, he, q⟩ := List.mem_map.mp hm
    cases q
    have hl := mem_look n (k := e.1) (v := e.2) he
    have hl' := hl
    rw [h] at hl'
    rw [lookD_row, hl']
    show some (D.int e.2) = some (D.int ((look l' e.1).getD 0))
    rw [hl']
    rfl
  · intro k d hm
    obtain ⟨e, he, q⟩ := List.mem_map.mp hm
    cases q
    show DEq (.int e.2) (.int ((look l' e.1).getD 0))
    rw [← h, mem_look n (k := e.1) (v := e.2) he]
    exact .same rfl
/-- nets of the same places with the same lines are equal -/
theorem netD_deq {ks ks' : List Str} {f f' : Str → Row} (p : ks.Perm ks') (n : ∀ x ∈ ks, ((f x).map (·.1)).Nodup) (n' : ∀ x ∈ ks', ((f' x).map (·.1)).Nodup) (h : ∀ x ∈ ks, ∀ k, look (f x) k = look (f' x) k) : DEq (netD ks f) (netD ks' f') := by
  refine .dct (fun k => match k with | .inl _ => .non | .inr x => rowD (f' x)) (by simpa using p.length_eq) ?_ ?_
  · intro k d hm
    obtain ⟨x, hx, q⟩ := List.mem_map.mp hm
    cases q
    exact lookD_map (fun y => rowD (f' y)) ks' x (p.mem_iff.mp hx)
  · intro k d hm
    obtain ⟨x, hx, q⟩ := List.mem_map.mp hm
    cases q
    exact rowD_deq (n x hx) (n' x (p.mem_iff.mp hx)) (h x hx)
theorem depD_le {es : List (Key × D)} {m : Nat} (h : ∀ k d, (k, d) ∈ es → d.dep ≤ m) : D.depD es ≤ m := by
  induction es with
  | nil => exact Nat.zero_le _
  | cons e r ih =>
    obtain ⟨k, d⟩ := e
    simp only [D.depD]
    have := h k d List.mem_cons_self
    have := ih fun k d hm => h k d (List.mem_cons_of_mem _ hm)
    omega
theorem netD_dep (ks : List Str) (f : Str → Row) : (netD ks f).dep ≤ 2 := by
  show D.depD _ + 1 ≤ 2
  refine Nat.succ_le_succ (depD_le fun k d hm => ?_)
  obtain ⟨x, hx, q⟩ := List.mem_map.mp hm
  cases q
  show D.depD _ + 1 ≤ 1
  refine Nat.succ_le_succ (depD_le fun k d hm => ?_)
  obtain ⟨e, he, q⟩ := List.mem_map.mp hm
  cases q
  exact Nat.zero_le _
end L2
namespace L2
open PySem PySem.Spec PyProof.Rows
theorem top_mk {K : PySem.W.Frag} {h : Heap} {mg : Str → Option Value} {nm : Str} {st : Stmt} {ps : List Str} {f : Addr} {oc : Value} {od an : Option Addr} {osl : Array (Option Value)} {kV doc pm cdv ct : Value} (X : K.In h) (G : h.Ns mainGlobals mg)
    (a : PySem.W.nsIn K mainGlobals nm = some (some (.ref f))) (l : K.lookup f = some ⟨oc, od, .func (PySem.W.fnOf nm nm (defArgs st) (defBody st) (defScope st) .none kV doc pm an cdv ct), osl⟩) (c : PySem.W.codeIn K cdv nm = true) (k : PySem.W.keepIn K (.ref f) = true)
    (hb : ∀ (kV doc pm : Value) (an : Option Addr) (cdv ct : Value) (us : List Value), us.length = ps.length → bindArgs (PySem.W.fnOf nm nm (defArgs st) (defBody st) (defScope st) .none kV doc pm an cdv ct) ⟨us, []⟩ = pure (ps.zip us)) :
    Top K mg nm st ps f (PySem.W.fnOf nm nm (defArgs st) (defBody st) (defScope st) .none kV doc pm an cdv ct) :=
  ⟨fun_mk (st := st) l c k, (fun_mk (st := st) l c k).binds hb, PySem.W.mg_of X G a⟩
end L2

set_option Elab.async false
set_option linter.all false
set_option maxRecDepth 100000
namespace L2
open PySem PySem.Spec PyProof.Rows
theorem iteD {p A B : Prop} [Decidable p] (h1 : p → A) (h2 : ¬ p → B) : if decide p = true then A else B := by
  by_cases h : p
  · rw [if_pos (decide_eq_true h)]; exact h1 h
  · rw [if_neg (by simpa using h)]; exact h2 h
theorem iteB {b : Bool} {A B : Prop} (h1 : b = true → A) (h2 : b = false → B) : if b = true then A else B := by
  cases b with
  | true => rw [if_pos rfl]; exact h1 rfl
  | false => rw [if_neg (by simp)]; exact h2 rfl
/-- what a turn must reach -/
def NxC (n : Nat) (Pv : Nat → List V → Hp → Prop) (i : Nat) (ys : List V) (H : Hp) : Prop := ∃ m', m' < n - i ∧ m' = n - (i + 1) ∧ i + 1 ≤ n ∧ Pv (i + 1) ys H
theorem nxC {n : Nat} {Pv : Nat → List V → Hp → Prop} {i : Nat} {ys : List V} {H : Hp} (hlt : i < n) (p : Pv (i + 1) ys H) : NxC n Pv i ys H := ⟨_, by omega, rfl, hlt, p⟩
theorem comp_inv {J : It} {g : TG} {tt : TT} {te : TE} {σ' : St} {Post : VK} {H1 : Hp} (n : Nat) (Pv : Nat → List V → Hp → Prop) (h0 : Pv 0 [] H1) (hz : ∀ i ys H, Pv i ys H → ys.length < sizeLine)
    (hgo : ∀ i ys H, i < n → Pv i ys H → J.go i H ∧ ∀ x H', J.yld i H x H' → g x σ' H' fun σ2 H2 => tt σ2 H2 fun b H3 => if b = true then te σ2 H3 fun y H4 => NxC n Pv i (ys ++ [y]) H4 else NxC n Pv i ys H3)
    (hs : ∀ ys H, Pv n ys H → J.stop n H ∧ ∀ p, H p = none → Post (.ref p) (upd H p (.lst ys))) : CompVC J g tt te σ' Post H1 := by
  refine ⟨fun i m ys H => m = n - i ∧ i ≤ n ∧ Pv i ys H, ⟨n, rfl, Nat.zero_le _, h0⟩, ?_⟩
  rintro i m ys H ⟨rfl, hi, p⟩
  refine ⟨hz i ys H p, ?_⟩
  by_cases hlt : i < n
  · exact .inr (hgo i ys H hlt p)
  · have e : i = n := by omega
    subst e
    exact .inl (hs ys H p)
theorem yesI {σ : St} {H : Hp} {A B : Hp → Prop} (h : A H) : tYes σ H (fun b H3 => if b = true then A H3 else B H3) := by
  show if true = true then A H else B H
  rw [if_pos rfl]; exact h
end L2

set_option Elab.async false
set_option linter.all false
set_option maxRecDepth 100000
set_option maxHeartbeats 4000000
/-! what the law's own helpers come to: names, nets, lines (own work) -/
namespace L2
open PySem PySem.Spec PyProof.Rows
/-! ### names -/
def isNm (x : Str) : Prop := 1 ≤ x.length ∧ x.length ≤ 8 ∧ ∀ c ∈ cs x, 97 ≤ c ∧ c ≤ 122
def lettersS : Str := "abcdefghijklmnopqrstuvwxyz"
theorem letters_cs : cs lettersS = (List.range 26).map (97 + ·) := by decide +kernel
theorem letter_at {j : Int} (h0 : 0 ≤ j) (h1 : j < 26) : atI (cs lettersS) j = some (97 + j.toNat) := by
  obtain ⟨k, rfl⟩ := Int.eq_ofNat_of_zero_le h0
  refine atI_nat ?_
  rw [letters_cs, List.getElem?_map, List.getElem?_range (by omega)]
  simp
theorem sIx_of {n d : Nat} {i : Int} (h : 0 ≤ i) : HT.sIx n d (some i) = min i.toNat n := by
  obtain ⟨k, rfl⟩ := Int.eq_ofNat_of_zero_le h
  rw [HT.sIx_nat]; simp
theorem cut_lo (l : List Nat) {i : Int} (h : 0 ≤ i) : cutC l none (some i) = l.take i.toNat := by
  unfold cutC
  rw [HT.sIx_none, sIx_of h, List.drop_zero, Nat.sub_zero]
  rcases Nat.le_total i.toNat l.length with q | q
  · rw [Nat.min_eq_left q]
  · rw [Nat.min_eq_right q, List.take_of_length_le (Nat.le_refl _), List.take_of_length_le q]
theorem cut_hi (l : List Nat) {i : Int} (h : 0 ≤ i) : cutC l (some i) none = l.drop i.toNat := by
  unfold cutC
  rw [HT.sIx_none, sIx_of h]
  rcases Nat.le_total i.toNat l.length with q | q
  · rw [Nat.min_eq_left q]
    exact List.take_of_length_le (by rw [List.length_drop]; exact Nat.le_refl _)
  · rw [Nat.min_eq_right q]
    rw [List.drop_eq_nil_of_le (Nat.le_refl _), List.drop_eq_nil_of_le q]; simp
theorem cutS_lo (x : Str) {i : Int} (h : 0 ≤ i) : cs (cutS x none (some i)) = (cs x).take i.toNat := by
  unfold cutS; rw [cs_ofC, cut_lo _ h]
theorem cutS_hi (x : Str) {i : Int} (h : 0 ≤ i) : cs (cutS x (some i) none) = (cs x).drop i.toNat := by
  unfold cutS; rw [cs_ofC, cut_hi _ h]
/-- one name: a base, another sign put in, cut -/
theorem nm_made {base : Str} {at' n : Nat} {c : Nat} {x : Str} (hb : (cs base).length = 7) (hl : ∀ d ∈ cs base, 97 ≤ d ∧ d ≤ 122) (ha : at' ≤ 5) (hc : 97 ≤ c ∧ c ≤ 122) (hn : at' + 1 ≤ n) (hn8 : n ≤ 8)
    (hx : cs x = ((cs base).take at' ++ [c] ++ (cs base).drop at').take n) : isNm x ∧ (cs x)[at']? = some c := by
  have len : (cs x).length = n := by
    rw [hx, List.length_take, List.length_append, List.length_append, List.length_take, List.length_drop, hb]
    simp
    omega
  refine ⟨⟨by rw [← cs_len]; omega, by rw [← cs_len]; omega, fun d hd => ?_⟩, ?_⟩
  · rw [hx] at hd
    have := List.mem_of_mem_take hd
    simp only [List.mem_append, List.mem_singleton] at this
    rcases this with (h | h) | h
    · exact hl d (List.mem_of_mem_take h)
    · rw [h]; exact hc
    · exact hl d (List.mem_of_mem_drop h)
  · rw [hx, List.getElem?_take, if_pos (by omega), List.append_assoc, List.getElem?_append_right (by rw [List.length_take]; omega), List.length_take, hb, Nat.min_eq_left (by omega)]
    simp
/-- the names so far: the k-th has the sign at' + its own -/
def Nms (at' : Nat) (m : Int) (i : Nat) (ss : List Str) : Prop := ss.length = i ∧ ss.Nodup ∧ (∀ s ∈ ss, isNm s) ∧ ∀ s ∈ ss, ∃ j, j < i ∧ (cs s)[at']? = some (97 + ((m + (j : Int)) % 26).toNat)
theorem Nms.nil (at' : Nat) (m : Int) : Nms at' m 0 [] := ⟨rfl, List.nodup_nil, fun _ h => absurd h (by simp), fun _ h => absurd h (by simp)⟩
theorem Nms.snoc {at' : Nat} {m : Int} {i : Nat} {ss : List Str} {x : Str} (h : Nms at' m i ss) (hi : i < 26) (hx : isNm x) (hc : (cs x)[at']? = some (97 + ((m + (i : Int)) % 26).toNat)) : Nms at' m (i + 1) (ss ++ [x]) := by
  obtain ⟨h1, h2, h3, h4⟩ := h
  refine ⟨by simp [h1], nd_snoc h2 (fun hm => ?_), fun s hs => ?_, fun s hs => ?_⟩
  · obtain ⟨j, hj, e⟩ := h4 x hm
    rw [hc] at e
    have e := Option.some.inj e
    have a1 := Int.emod_nonneg (m + (i : Int)) (show (26 : Int) ≠ 0 by decide)
    have a2 := Int.emod_nonneg (m + (j : Int)) (show (26 : Int) ≠ 0 by decide)
    omega
  · rcases List.mem_append.mp hs with q | q
    · exact h3 s q
    · rw [List.mem_singleton.mp q]; exact hx
  · rcases List.mem_append.mp hs with q | q
    · obtain ⟨j, hj, e⟩ := h4 s q; exact ⟨j, by omega, e⟩
    · rw [List.mem_singleton.mp q]; exact ⟨i, by omega, hc⟩
/-! ### nets -/
structure GNet (ks : List Str) (f : Str → Row) (B : Int) : Prop where
  sym : ∀ x y, x ∈ ks → y ∈ ks → look (f x) y = look (f y) x
  irr : ∀ x, x ∈ ks → look (f x) x = none
  val : ∀ x y v, x ∈ ks → look (f x) y = some v → y ∈ ks ∧ 1 ≤ v ∧ v ≤ B
  nd : ∀ x, x ∈ ks → ((f x).map (·.1)).Nodup
theorem GNet.nil (ks : List Str) (B : Int) : GNet ks (fun _ => []) B := ⟨fun _ _ _ _ => rfl, fun _ _ => rfl, fun _ _ _ _ h => (by cases h), fun _ _ => List.nodup_nil⟩
def putR (f : Str → Row) (x y : Str) (v : Int) : Str → Row := fun z => if z = x then put (f x) y v else f z
theorem putR_at (f : Str → Row) (x y : Str) (v : Int) : putR f x y v x = put (f x) y v := by unfold putR; rw [if_pos rfl]
theorem putR_ne {f : Str → Row} {x y : Str} {v : Int} {z : Str} (h : z ≠ x) : putR f x y v z = f z := by unfold putR; rw [if_neg h]
/-- a line is laid both ways -/
def putB (f : Str → Row) (x y : Str) (v : Int) : Str → Row := putR (putR f x y v) y x v
theorem look_putB {f : Str → Row} {x y : Str} {v : Int} (h : x ≠ y) (a b : Str) : look (putB f x y v a) b = if (a = x ∧ b = y) ∨ (a = y ∧ b = x) then some v else look (f a) b := by
  unfold putB
  by_cases h1 : a = y
  · subst h1
    rw [putR_at, look_put, putR_ne (Ne.symm h)]
    by_cases h2 : x = b
    · subst h2; simp
    · have h2' : ¬ b = x := fun q => h2 q.symm
      have h3 : ¬ a = x := fun q => h q.symm
      simp [h2, h2', h3]
  · rw [putR_ne h1]
    by_cases h2 : a = x
    · subst h2
      rw [putR_at, look_put]
      by_cases h3 : y = b
      · subst h3; simp
      · have h3' : ¬ b = y := fun q => h3 q.symm
        simp [h3, h3', h1]
    · rw [putR_ne h2]; simp [h1, h2]
theorem putB_nd {f : Str → Row} {x y : Str} {v : Int} {a : Str} (hx : ((f x).map (·.1)).Nodup) (hy : ((f y).map (·.1)).Nodup) (ha : ((f a).map (·.1)).Nodup) (h : x ≠ y) : ((putB f x y v a).map (·.1)).Nodup := by
  unfold putB
  by_cases h1 : a = y
  · subst h1; rw [putR_at, putR_ne (Ne.symm h)]; exact put_nodup _ _ hy
  · rw [putR_ne h1]
    by_cases h2 : a = x
    · subst h2; rw [putR_at]; exact put_nodup _ _ hx
    · rw [putR_ne h2]; exact ha
theorem GNet.put {ks : List Str} {f : Str → Row} {B : Int} (g : GNet ks f B) {x y : Str} {v : Int} (hx : x ∈ ks) (hy : y ∈ ks) (h : x ≠ y) (h1 : 1 ≤ v) (h2 : v ≤ B) : GNet ks (putB f x y v) B := by
  refine ⟨fun a b ha hb => ?_, fun a ha => ?_, fun a b w ha hw => ?_, fun a ha => putB_nd (g.nd x hx) (g.nd y hy) (g.nd a ha) h⟩
  · rw [look_putB h, look_putB h]
    by_cases c : (a = x ∧ b = y) ∨ (a = y ∧ b = x)
    · rw [if_pos c, if_pos (by rcases c with ⟨p, q⟩ | ⟨p, q⟩ <;> simp [p, q])]
    · rw [if_neg c, if_neg (by rintro (⟨p, q⟩ | ⟨p, q⟩) <;> exact c (by simp [p, q]))]
      exact g.sym a b ha hb
  · rw [look_putB h, if_neg (by rintro (⟨p, q⟩ | ⟨p, q⟩) <;> exact h (by rw [← p, ← q]))]
    exact g.irr a ha
  · rw [look_putB h] at hw
    by_cases c : (a = x ∧ b = y) ∨ (a = y ∧ b = x)
    · rw [if_pos c] at hw
      cases hw
      refine ⟨?_, h1, h2⟩
      rcases c with ⟨p, q⟩ | ⟨p, q⟩
      · rw [q]; exact hy
      · rw [q]; exact hx
    · rw [if_neg c] at hw
      exact g.val a b w ha hw
/-! ### lines -/
abbrev Ln := Str × Str × Int
def norm (l : Ln) : Ln := if sLt l.1 l.2.1 then l else (l.2.1, l.1, l.2.2)
def lineD (l : Ln) : D := .tup [.str l.1, .str l.2.1, .int l.2.2]
def rowL (f : Str → Row) (x : Str) (ys : List Str) : List Ln := (ys.filter fun y => decide (sLt x y)).map fun y => (x, y, (look (f x) y).getD 0)
def linesF (ks : List Str) (f : Str → Row) : List Ln := (sortS ks).flatMap fun x => rowL f x (sortS ((f x).map (·.1)))
theorem mem_rowL {f : Str → Row} {x : Str} {ys : List Str} {l : Ln} : l ∈ rowL f x ys ↔ l.1 = x ∧ l.2.1 ∈ ys ∧ sLt x l.2.1 ∧ l.2.2 = (look (f x) l.2.1).getD 0 := by
  unfold rowL
  rw [List.mem_map]
  constructor
  · rintro ⟨y, hy, rfl⟩
    obtain ⟨a, b⟩ := List.mem_filter.mp hy
    exact ⟨rfl, a, of_decide_eq_true b, rfl⟩
  · rintro ⟨a, b, c, d⟩
    obtain ⟨l1, l2, l3⟩ := l
    exact ⟨l2, List.mem_filter.mpr ⟨b, decide_eq_true c⟩, by simp at a d; rw [a, d]⟩
theorem mem_linesF {ks : List Str} {f : Str → Row} {l : Ln} : l ∈ linesF ks f ↔ l.1 ∈ ks ∧ sLt l.1 l.2.1 ∧ look (f l.1) l.2.1 = some l.2.2 := by
  unfold linesF
  rw [List.mem_flatMap]
  constructor
  · rintro ⟨x, hx, hl⟩
    obtain ⟨a, b, c, d⟩ := mem_rowL.mp hl
    subst a
    refine ⟨mem_sortS.mp hx, c, ?_⟩
    obtain ⟨v, hv⟩ := look_some_iff.mpr (mem_sortS.mp b)
    rw [d, hv]; rfl
  · rintro ⟨a, b, c⟩
    refine ⟨l.1, mem_sortS.mpr a, mem_rowL.mpr ⟨rfl, mem_sortS.mpr (look_some_iff.mp ⟨_, c⟩), b, by rw [c]; rfl⟩⟩
theorem rowL_nodup {f : Str → Row} {x : Str} {ys : List Str} (h : ys.Nodup) : (rowL f x ys).Nodup := by
  unfold rowL
  refine List.Pairwise.map _ (fun a b hab e => ?_) (h.filter _)
  exact hab (by injection e with _ e; injection e)
theorem linesF_nodup {ks : List Str} {f : Str → Row} {B : Int} (hk : ks.Nodup) (g : GNet ks f B) : (linesF ks f).Nodup := by
  unfold linesF
  refine List.pairwise_flatMap.mpr ⟨fun x hx => rowL_nodup (sortS_nodup (g.nd x (mem_sortS.mp hx))), (sortS_nodup hk).imp fun {a b} hab l hl m hm e => ?_⟩
  subst e
  exact hab ((mem_rowL.mp hl).1.symm.trans (mem_rowL.mp hm).1)
/-- a line joins x and y by s -/
def Jn (ls : List Ln) (x y : Str) (s : Int) : Prop := (x, y, s) ∈ ls ∨ (y, x, s) ∈ ls
theorem norm_lt {x y : Str} {s : Int} (h : sLt x y) : norm (x, y, s) = (x, y, s) := by unfold norm; rw [if_pos h]
theorem norm_gt {x y : Str} {s : Int} (h : sLt y x) : norm (x, y, s) = (y, x, s) := by
  unfold norm; rw [if_neg (fun q => sLt_irrefl _ (sLt_trans h q))]
theorem norm_cases (l : Ln) : norm l = l ∨ norm l = (l.2.1, l.1, l.2.2) := by unfold norm; split <;> simp
/-- lines as they may be told, of the net f over ks -/
structure LinesOf (ks : List Str) (f : Str → Row) (B : Int) (ls : List Ln) : Prop where
  perm : (ls.map norm).Perm (linesF ks f)
section
variable {ks : List Str} {f : Str → Row} {B : Int} {ls : List Ln}
theorem LinesOf.jn (h : LinesOf ks f B ls) (g : GNet ks f B) {x y : Str} {s : Int} (hx : x ∈ ks) (hy : y ∈ ks) : Jn ls x y s ↔ look (f x) y = some s := by
  have key : ∀ l : Ln, l ∈ ls.map norm ↔ l.1 ∈ ks ∧ sLt l.1 l.2.1 ∧ look (f l.1) l.2.1 = some l.2.2 := fun l => (h.perm.mem_iff).trans mem_linesF
  constructor
  · rintro (q | q)
    · have := (key _).mp (List.mem_map.mpr ⟨_, q, rfl⟩)
      rcases norm_cases (x, y, s) with e | e
      · rw [e] at this; exact this.2.2
      · rw [e] at this; rw [g.sym x y hx hy]; exact this.2.2
    · have := (key _).mp (List.mem_map.mpr ⟨_, q, rfl⟩)
      rcases norm_cases (y, x, s) with e | e
      · rw [e] at this; rw [g.sym x y hx hy]; exact this.2.2
      · rw [e] at this; exact this.2.2
  · intro q
    have ne : x ≠ y := by rintro rfl; rw [g.irr x hx] at q; cases q
    have fin : ∀ l : Ln, l ∈ ls → norm l = (x, y, s) ∨ norm l = (y, x, s) → Jn ls x y s := fun l hl hn => by
      obtain ⟨a, b, c⟩ := l
      rcases norm_cases (a, b, c) with e | e <;> rw [e] at hn <;> rcases hn with hn | hn <;> cases hn
      · exact .inl hl
      · exact .inr hl
      · exact .inr hl
      · exact .inl hl
    rcases sLt_or (a := x) (b := y) with c | c | c
    · obtain ⟨l, hl, e⟩ := List.mem_map.mp ((key (x, y, s)).mpr ⟨hx, c, q⟩)
      exact fin l hl (.inl e)
    · exact absurd c ne
    · obtain ⟨l, hl, e⟩ := List.mem_map.mp ((key (y, x, s)).mpr ⟨hy, c, by rw [g.sym y x hy hx]; exact q⟩)
      exact fin l hl (.inr e)
theorem LinesOf.mem (h : LinesOf ks f B ls) (g : GNet ks f B) {l : Ln} (hl : l ∈ ls) : l.1 ∈ ks ∧ l.2.1 ∈ ks ∧ l.1 ≠ l.2.1 ∧ 1 ≤ l.2.2 ∧ l.2.2 ≤ B := by
  have := mem_linesF.mp (h.perm.mem_iff.mp (List.mem_map.mpr ⟨_, hl, rfl⟩))
  obtain ⟨a, b, c⟩ := l
  rcases norm_cases (a, b, c) with e | e <;> rw [e] at this <;> obtain ⟨p, q, r⟩ := this <;> obtain ⟨p2, p3, p4⟩ := g.val _ _ _ p r
  · exact ⟨p, p2, fun z => sLt_irrefl _ (by simpa [show a = b from z] using q), p3, p4⟩
  · exact ⟨p2, p, fun z => sLt_irrefl _ (by simpa [show a = b from z] using q), p3, p4⟩
/-- no two lines join the same places -/
def Apart (ls : List Ln) : Prop := ∀ (i j : Nat) (l m : Ln), ls[i]? = some l → ls[j]? = some m → i < j → ¬ ((l.1 = m.1 ∧ l.2.1 = m.2.1) ∨ (l.1 = m.2.1 ∧ l.2.1 = m.1))
theorem norm_eq_of {l m : Ln} (hne : l.1 ≠ l.2.1) (h : (l.1 = m.1 ∧ l.2.1 = m.2.1) ∨ (l.1 = m.2.1 ∧ l.2.1 = m.1)) (hs : l.2.2 = m.2.2) : norm l = norm m := by
  obtain ⟨a, b, c⟩ := l
  obtain ⟨a', b', c'⟩ := m
  simp only at h hs hne
  subst hs
  rcases h with ⟨rfl, rfl⟩ | ⟨rfl, rfl⟩
  · rfl
  · rcases sLt_or (a := a) (b := b) with q | q | q
    · rw [norm_lt q, norm_gt q]
    · exact absurd q hne
    · rw [norm_gt q, norm_lt q]
theorem LinesOf.apart (h : LinesOf ks f B ls) (g : GNet ks f B) (hk : ks.Nodup) : Apart ls := by
  intro i j l m hi hj hij c
  have hl := List.mem_of_getElem? hi
  have hm := List.mem_of_getElem? hj
  obtain ⟨l1, l2, l3, _⟩ := h.mem g hl
  have nd : (ls.map norm).Nodup := (h.perm.nodup_iff).mpr (linesF_nodup hk g)
  have a1 := (h.jn g (x := l.1) (y := l.2.1) (s := l.2.2) l1 l2).mp (.inl hl)
  have a2 : look (f l.1) l.2.1 = some m.2.2 := (h.jn g l1 l2).mp (by
    obtain ⟨a, b, c'⟩ := l
    obtain ⟨a', b', c''⟩ := m
    rcases c with ⟨p, q⟩ | ⟨p, q⟩
    · left; simp only at p q ⊢; rw [p, q]; exact hm
    · right; simp only at p q ⊢; rw [p, q]; exact hm)
  have es : l.2.2 = m.2.2 := Option.some.inj (a1.symm.trans a2)
  have en := norm_eq_of l3 c es
  have p := List.pairwise_iff_getElem.mp nd
  obtain ⟨hi', ei⟩ := List.getElem?_eq_some_iff.mp hi
  obtain ⟨hj', ej⟩ := List.getElem?_eq_some_iff.mp hj
  have := p i j (by simpa using hi') (by simpa using hj') hij
  rw [List.getElem_map, List.getElem_map, ei, ej] at this
  exact this en
end
theorem Jn.snoc {ls : List Ln} {l : Ln} {x y : Str} {s : Int} : Jn (ls ++ [l]) x y s ↔ Jn ls x y s ∨ ((x = l.1 ∧ y = l.2.1) ∨ (x = l.2.1 ∧ y = l.1)) ∧ s = l.2.2 := by
  obtain ⟨a, b, c⟩ := l
  unfold Jn
  simp only [List.mem_append, List.mem_singleton, Prod.mk.injEq]
  constructor
  · rintro ((h | ⟨h1, h2, h3⟩) | (h | ⟨h1, h2, h3⟩))
    · exact .inl (.inl h)
    · exact .inr ⟨.inl ⟨h1, h2⟩, h3⟩
    · exact .inl (.inr h)
    · exact .inr ⟨.inr ⟨h2, h1⟩, h3⟩
  · rintro ((h | h) | ⟨⟨h1, h2⟩ | ⟨h1, h2⟩, h3⟩)
    · exact .inl (.inl h)
    · exact .inr (.inl h)
    · exact .inl (.inr ⟨h1, h2, h3⟩)
    · exact .inr (.inr ⟨h2, h1, h3⟩)
/-- the net that the lines make, so far -/
structure MNet (ss : List Str) (ls : List Ln) (g : Str → Row) : Prop where
  jn : ∀ x y s, x ∈ ss → (look (g x) y = some s ↔ Jn ls x y s)
  nd : ∀ x, x ∈ ss → ((g x).map (·.1)).Nodup
theorem MNet.nil (ss : List Str) : MNet ss [] (fun _ => []) := ⟨fun _ _ _ _ => ⟨fun h => (by cases h), fun h => by rcases h with h | h <;> simp at h⟩, fun _ _ => List.nodup_nil⟩
theorem MNet.put {ss : List Str} {ls : List Ln} {g : Str → Row} (h : MNet ss ls g) {l : Ln} (h1 : l.1 ∈ ss) (h2 : l.2.1 ∈ ss) (hne : l.1 ≠ l.2.1) (hno : look (g l.1) l.2.1 = none) : MNet ss (ls ++ [l]) (putB g l.1 l.2.1 l.2.2) := by
  refine ⟨fun x y s hx => ?_, fun x hx => putB_nd (h.nd _ h1) (h.nd _ h2) (h.nd _ hx) hne⟩
  have no : ∀ t, ¬ Jn ls l.1 l.2.1 t := fun t q => by have := (h.jn _ _ _ h1).mpr q; rw [hno] at this; cases this
  rw [Jn.snoc, look_putB hne, ← h.jn x y s hx]
  by_cases c : (x = l.1 ∧ y = l.2.1) ∨ (x = l.2.1 ∧ y = l.1)
  · rw [if_pos c]
    constructor
    · intro e; exact .inr ⟨c, (Option.some.inj e).symm⟩
    · rintro (e | ⟨_, e⟩)
      · exfalso
        have := (h.jn x y s hx).mp e
        rcases c with ⟨p, q⟩ | ⟨p, q⟩
        · rw [p, q] at this; exact no s this
        · rw [p, q] at this; exact no s this.symm
      · rw [e]
  · rw [if_neg c]
    constructor
    · exact .inl
    · rintro (e | ⟨e, _⟩)
      · exact e
      · exact absurd e c
theorem MNet.none {ss : List Str} {ls : List Ln} {g : Str → Row} {i : Nat} {l : Ln} (h : MNet ss (ls.take i) g) (ap : Apart ls) (hi : ls[i]? = some l) (h1 : l.1 ∈ ss) : look (g l.1) l.2.1 = none := by
  cases e : look (g l.1) l.2.1 with
  | none => rfl
  | some s =>
    exfalso
    have get : ∀ m : Ln, m ∈ ls.take i → ∃ j, j < i ∧ ls[j]? = some m := fun m hm => by
      obtain ⟨j, hj⟩ := List.getElem?_of_mem hm
      rw [List.getElem?_take] at hj
      by_cases c : j < i
      · rw [if_pos c] at hj; exact ⟨j, c, hj⟩
      · rw [if_neg c] at hj; cases hj
    rcases (h.jn _ _ _ h1).mp e with q | q
    · obtain ⟨j, hj, ej⟩ := get _ q
      exact ap j i _ _ ej hi hj (.inl ⟨rfl, rfl⟩)
    · obtain ⟨j, hj, ej⟩ := get _ q
      exact ap j i _ _ ej hi hj (.inr ⟨rfl, rfl⟩)
/-- made of the lines of f it has the lines of f -/
theorem MNet.same {ks ss : List Str} {f g : Str → Row} {B : Int} {ls : List Ln} (m : MNet ss ls g) (h : LinesOf ks f B ls) (gn : GNet ks f B) (p : ss.Perm ks) {x : Str} (hx : x ∈ ss) (y : Str) : look (g x) y = look (f x) y := by
  have hx' := p.mem_iff.mp hx
  apply Option.ext
  intro s
  rw [m.jn x y s hx]
  constructor
  · intro q
    have hy : y ∈ ks := by
      rcases q with q | q
      · exact (h.mem gn q).2.1
      · exact (h.mem gn q).1
    exact (h.jn gn hx' hy).mp q
  · intro q
    have hy := (gn.val _ _ _ hx' q).1
    exact (h.jn gn hx' hy).mpr q
end L2

set_option Elab.async false
set_option linter.all false
set_option maxRecDepth 100000
set_option maxHeartbeats 4000000
/-! steps on a net's dicts (own work) -/
namespace L2
open PySem PySem.Spec PyProof.Rows
theorem nd_len {α : Type} [DecidableEq α] : ∀ {l m : List α}, l.Nodup → (∀ x ∈ l, x ∈ m) → l.length ≤ m.length
  | [], _, _, _ => Nat.zero_le _
  | x :: r, m, h, s => by
    obtain ⟨h1, h2⟩ := List.nodup_cons.mp h
    have hx := s x List.mem_cons_self
    have := nd_len (l := r) (m := m.erase x) h2 (fun y hy => (List.mem_erase_of_ne (fun (e : y = x) => h1 (by rw [← e]; exact hy))).mpr (s y (List.mem_cons_of_mem _ hy)))
    rw [List.length_erase_of_mem hx] at this
    have := List.length_pos_of_mem hx
    rw [List.length_cons]
    omega
theorem nd_inj {α β : Type} {g : α → β} : ∀ {l : List α} {a b : α}, (l.map g).Nodup → a ∈ l → b ∈ l → g a = g b → a = b
  | [], _, _, _, h, _, _ => by simp at h
  | x :: r, a, b, hn, ha, hb, e => by
    rw [List.map_cons] at hn
    obtain ⟨h1, h2⟩ := List.nodup_cons.mp hn
    rcases List.mem_cons.mp ha with p | p <;> rcases List.mem_cons.mp hb with q | q
    · rw [p, q]
    · subst p; exact absurd (List.mem_map.mpr ⟨b, q, e.symm⟩) h1
    · subst q; exact absurd (List.mem_map.mpr ⟨a, p, e⟩) h1
    · exact nd_inj h2 p q e
section
variable {H H' : Hp} {a : Addr} {bs : Outer} {f : Str → Row} {x y : Str} {b : Addr}
theorem mem_addrOf (hk : (bs.map (·.1)).Nodup) (h : (x, b) ∈ bs) : addrOf bs x = some b := by
  obtain ⟨c, hc⟩ := addrOf_some (List.mem_map.mpr ⟨_, h, rfl⟩)
  have := nd_inj hk (addrOf_mem hc) h rfl
  rw [hc]
  exact congrArg some (congrArg Prod.snd this)
theorem NetR.dget (n : NetR H a bs f) (h : addrOf bs x = some b) : DGet H a (.str x) (some (.ref b)) := .inl ⟨_, Sum.inr x, n.out, rfl, by rw [valV_encO, h]; rfl⟩
theorem NetR.rget (n : NetR H a bs f) (h : addrOf bs x = some b) : DGet H b (.str y) ((look (f x) y).map V.int) := .inl ⟨_, Sum.inr y, n.inn _ (addrOf_mem h), rfl, by rw [valV_enc]⟩
theorem NetR.rget' (n : NetR H a bs f) (h : addrOf bs x = some b) {v : Int} (e : look (f x) y = some v) : DGet H b (.str y) (some (.int v)) := by have := n.rget (y := y) h; rw [e] at this; exact this
theorem NetAt.ne (n : NetAt H a bs f) (h : addrOf bs x = some b) : b ≠ a := fun e => by
  have := (List.nodup_cons.mp n.nd).1
  exact this (e ▸ List.mem_map.mpr ⟨_, addrOf_mem h, rfl⟩)
theorem NetAt.put (n : NetAt H a bs f) (h : addrOf bs x = some b) (v : Int) (y : Str) (hl : (f x).length < sizeLine) : DPut H b (.str y) (.int v) (upd H b (.dK (encI (put (f x) y v)))) ∧ NetAt (upd H b (.dK (encI (put (f x) y v)))) a bs (putR f x y v) := by
  have hb := n.inn _ (addrOf_mem h)
  have p := DPut.k (k := Sum.inr y) (v := .int v) hb (by rw [encI_len]; exact hl)
  rw [encI_put] at p
  refine ⟨p, ?_, fun q hq => ?_, n.ks, n.nd⟩
  · rw [upd_ne (n.ne h).symm]; exact n.out
  · by_cases e : q.2 = b
    · have : q = (x, b) := nd_inj (List.nodup_cons.mp n.nd).2 hq (addrOf_mem h) e
      subst this
      rw [upd_same, putR_at]
    · rw [upd_ne e, putR_ne (fun z => e ?_)]
      · exact n.inn q hq
      · have : q = (x, b) := nd_inj n.ks hq (addrOf_mem h) z
        rw [this]
theorem encO_put (h : x ∉ bs.map (·.1)) : putK (encO bs) (Sum.inr x) (.ref b) = encO (bs ++ [(x, b)]) := by
  rw [putK_new]
  · unfold encO; rw [List.map_append]; rfl
  · rw [valV_encO, addrOf_none.mpr h]; rfl
theorem NetAt.add (n : NetAt H a bs f) (hx : x ∉ bs.map (·.1)) (hp : H b = none) (hl : bs.length < sizeLine) (hf : f x = []) :
    DPut (upd H b (.dK [])) a (.str x) (.ref b) (upd (upd H b (.dK [])) a (.dK (encO (bs ++ [(x, b)])))) ∧ NetAt (upd (upd H b (.dK [])) a (.dK (encO (bs ++ [(x, b)])))) a (bs ++ [(x, b)]) f := by
  have ab : a ≠ b := ne_of_none n.out hp
  have hn : ∀ q ∈ bs, q.2 ≠ b := fun q hq => ne_of_none (n.inn q hq) hp
  have p := DPut.k (H := upd H b (.dK [])) (k := Sum.inr x) (v := .ref b) (by rw [upd_ne ab]; exact n.out) (by unfold encO; rw [List.length_map]; exact hl)
  rw [encO_put hx] at p
  refine ⟨p, upd_same, fun q hq => ?_, ?_, ?_⟩
  · rcases List.mem_append.mp hq with c | c
    · have h1 : q.2 ≠ a := fun e => (List.nodup_cons.mp n.nd).1 (e ▸ List.mem_map.mpr ⟨_, c, rfl⟩)
      rw [upd_ne h1, upd_ne (hn q c)]; exact n.inn q c
    · rw [List.mem_singleton.mp c]
      show upd _ _ _ b = some (.dK (encI (f x)))
      rw [upd_ne ab.symm, upd_same, hf]; rfl
  · rw [List.map_append]; exact nd_snoc n.ks hx
  · rw [List.map_append, ← List.cons_append]
    refine nd_snoc n.nd (fun h => ?_)
    rcases List.mem_cons.mp h with e | e
    · exact ab e.symm
    · obtain ⟨q, hq, e⟩ := List.mem_map.mp e
      exact hn q hq e
end
/-- all of a net's addresses are new since H -/
def New (H : Hp) (a : Addr) (bs : Outer) : Prop := H a = none ∧ ∀ p ∈ bs, H p.2 = none
theorem New.same {H H' : Hp} {a : Addr} {bs : Outer} (n : New H' a bs) (s : Same H H') : New H a bs := ⟨s.free n.1, fun p hp => s.free (n.2 p hp)⟩
theorem NetR.row {H : Hp} {a : Addr} {bs : Outer} {f : Str → Row} (n : NetR H a bs f) {x : Str} (hx : x ∈ bs.map (·.1)) : ∃ b, addrOf bs x = some b ∧ Rd H b (.dK (encI (f x))) := by
  obtain ⟨b, h⟩ := addrOf_some hx
  exact ⟨b, h, n.inn _ (addrOf_mem h)⟩
/-- a Python list of lines -/
def LinesAt (K : PySem.W.Frag) (H : Hp) (p : Addr) (ls : List Ln) : Prop := ∃ xs, H p = some (.lst xs) ∧ Reps K H xs (ls.map lineD)
theorem LinesAt.same {K : PySem.W.Frag} {H H' : Hp} {p : Addr} {ls : List Ln} (h : LinesAt K H p ls) (s : Same H H') : LinesAt K H' p ls := by
  obtain ⟨xs, a, b⟩ := h; exact ⟨xs, s _ _ a, b.sm s.sm⟩
theorem Reps.line {K : PySem.W.Frag} {H : Hp} {xs : List V} {ls : List Ln} {i : Nat} {v : V} (h : Reps K H xs (ls.map lineD)) (e : xs[i]? = some v) : ∃ l a, ls[i]? = some l ∧ v = .ref a ∧ SqT K H a [.str l.1, .str l.2.1, .int l.2.2] := by
  obtain ⟨d, hd, r⟩ := h.get' e
  rw [List.getElem?_map] at hd
  cases q : ls[i]? with
  | none => rw [q] at hd; cases hd
  | some l =>
    rw [q] at hd
    cases hd
    unfold lineD at r
    cases r with
    | tup h1 h2 =>
      cases h2 with
      | cons a t => cases t with
        | cons b t => cases t with
          | cons c t => cases t; cases a; cases b; cases c; exact ⟨l, _, rfl, rfl, h1⟩
theorem Reps.perm {K : PySem.W.Frag} {H : Hp} {xs ys : List V} {ds : List D} (p : ys.Perm xs) (h : Reps K H xs ds) : ∃ es : List D, es.Perm ds ∧ Reps K H ys es := by
  induction p generalizing ds with
  | nil => cases h; exact ⟨[], .nil, .nil⟩
  | cons x _ ih =>
    cases h with
    | cons a t => obtain ⟨es, p1, p2⟩ := ih t; exact ⟨_ :: es, p1.cons _, .cons a p2⟩
  | swap x y l =>
    cases h with
    | cons a t => cases t with
      | cons b t => exact ⟨_ :: _ :: _, .swap _ _ _, .cons b (.cons a t)⟩
  | trans _ _ ih1 ih2 =>
    obtain ⟨es, p1, p2⟩ := ih2 h
    obtain ⟨es', p3, p4⟩ := ih1 p2
    exact ⟨es', p3.trans p1, p4⟩
theorem perm_map_inv {α β : Type} {g : α → β} {l : List α} {m : List β} (p : m.Perm (l.map g)) : ∃ l' : List α, l'.Perm l ∧ l'.map g = m := by
  generalize hm : l.map g = m' at p
  induction p generalizing l with
  | nil => exact ⟨[], by cases l with | nil => exact .nil | cons _ _ => simp at hm, rfl⟩
  | cons x _ ih =>
    cases l with
    | nil => simp at hm
    | cons a r =>
      simp at hm
      obtain ⟨l', p1, p2⟩ := ih hm.2
      exact ⟨a :: l', p1.cons _, by simp [p2, hm.1]⟩
  | swap x y l0 =>
    cases l with
    | nil => simp at hm
    | cons a r =>
      cases r with
      | nil => simp at hm
      | cons b r =>
        simp at hm
        exact ⟨b :: a :: r, .swap _ _ _, by simp [hm]⟩
  | trans _ _ ih1 ih2 =>
    obtain ⟨l1, p1, p2⟩ := ih2 hm
    obtain ⟨l2, p3, p4⟩ := ih1 p2
    exact ⟨l2, p3.trans p1, p4⟩
theorem LinesAt.perm {K : PySem.W.Frag} {H : Hp} {xs ys : List V} {ls : List Ln} (h : Reps K H xs (ls.map lineD)) (p : ys.Perm xs) : ∃ ms : List Ln, ms.Perm ls ∧ Reps K H ys (ms.map lineD) := by
  obtain ⟨es, p1, p2⟩ := Reps.perm p h
  obtain ⟨ms, p3, p4⟩ := perm_map_inv p1
  exact ⟨ms, p3, by rw [p4]; exact p2⟩
end L2

set_option Elab.async false
set_option linter.all false
set_option maxRecDepth 100000
set_option maxHeartbeats 4000000
namespace L2
open PySem PySem.Spec PyProof.Rows
/-- a test without else: both ways meet -/
theorem ifJ {b : Bool} {t : TS} {D : Ends} {σ : St} {H : Hp} (R : St → Hp → Prop) (hN : ∀ σ H, R σ H → D.nx σ H) (hA : b = true → (∀ σ H, R σ H → D.nx σ H) → t D σ H) (hB : b = false → R σ H) : if b = true then t D σ H else tNext D σ H := by
  cases b with
  | true => rw [if_pos rfl]; exact hA rfl hN
  | false => rw [if_neg (by simp)]; exact hN _ _ (hB rfl)
theorem sz {n : Nat} (h : n ≤ 1000) : n ≤ sizeLine := Nat.le_of_lt (small1000 h)
theorem szl {n : Nat} (h : n ≤ 1000) : n < sizeLine := small1000 h
theorem atI0 {α : Type} {x y : α} : atI [x, y] 0 = some x := rfl
theorem atI1 {α : Type} {x y : α} : atI [x, y] 1 = some y := rfl
theorem atI_ix {α β : Type} {g : α → β} {l : List α} {i : Int} (h0 : 0 ≤ i) (h1 : i < l.length) : ∃ x, x ∈ l ∧ l[i.toNat]? = some x ∧ atI (l.map g) i = some (g x) := by
  obtain ⟨k, rfl⟩ := Int.eq_ofNat_of_zero_le h0
  have hk : k < l.length := by omega
  refine ⟨l[k], List.getElem_mem hk, by simp [hk], atI_nat (by simp [hk])⟩
theorem seqIx {n : Nat} {i : Int} (h0 : 0 ≤ i) (h1 : i < n) : seqIndex? i n = some i.toNat := by
  have : ixN n i = some i.toNat := by unfold ixN; rw [if_pos h0, if_pos h1]
  exact (ixN_seq this).1
/-- a net that grows over what was there at H -/
def NS (H : Hp) (p : Addr) (ks : List Str) (B : Int) (H2 : Hp) : Prop := ∃ bs f, Same H H2 ∧ NetAt H2 p bs f ∧ bs.map (·.1) = ks ∧ New H p bs ∧ GNet ks f B
theorem Same.netput {H H2 : Hp} {p b : Addr} {bs : Outer} {x : Str} {o : HO} (s : Same H H2) (n : New H p bs) (h : addrOf bs x = some b) : Same H (L2.upd H2 b o) := s.upd (n.2 _ (addrOf_mem h))
theorem row_len {ks : List Str} {f : Str → Row} {B : Int} (g : GNet ks f B) {x : Str} (hx : x ∈ ks) (hk : ks.length ≤ 1000) : (f x).length < sizeLine := by
  refine szl ?_
  have : ((f x).map (·.1)).length ≤ ks.length := nd_len (g.nd x hx) fun y hy => by
    obtain ⟨v, hv⟩ := look_some_iff.mpr hy
    exact (g.val x y v hx hv).1
  rw [List.length_map] at this
  omega
end L2

set_option Elab.async false
set_option linter.all false
set_option maxRecDepth 100000
set_option maxHeartbeats 4000000
namespace L2
open PySem PySem.Spec PyProof.Rows
def mixF (c k : Int) : Int :=
  let n := (c % 2147483647 + 7919 * k + 1) * 48271 % 2147483647
  let m := (n * n + k) % 2147483629
  m * m % 2147483587
theorem mixF_lo (c k : Int) : 0 ≤ mixF c k := Int.emod_nonneg _ (by decide)
theorem mixF_hi (c k : Int) : mixF c k < 2147483587 := Int.emod_lt_of_pos _ (by decide)
def isStr : D → Bool | .str _ => true | _ => false
def nameD : D → Bool
  | .str x => decide (1 ≤ x.length) && decide (x.length ≤ 8) && (cs x).all fun c => decide (c ∈ cs lettersS)
  | _ => false
theorem glue_cs (sep : Str) : ∀ (rest : List Str) (acc : Array Nat), (rest.foldl (fun acc p => acc ++ sep.cps ++ p.cps) acc).toList = acc.toList ++ (rest.map fun y => cs sep ++ cs y).flatten
  | [], acc => by simp
  | y :: r, acc => by rw [List.foldl_cons, glue_cs sep r, List.map_cons, List.flatten_cons]; simp [cs]
theorem join_cs (sep x : Str) (rest : List Str) : cs (joinS sep (x :: rest)) = cs x ++ (rest.map fun y => cs sep ++ cs y).flatten := by
  show Array.toList (List.foldl (fun acc (p : Str) => acc ++ sep.cps ++ p.cps) x.cps rest) = _
  exact glue_cs sep rest x.cps
theorem cs_empty : cs "" = [] := by decide +kernel
theorem join_signs : ∀ l : List Nat, cs (joinS "" (l.map fun c => ⟨#[c]⟩)) = l
  | [] => rfl
  | c :: r => by
    rw [List.map_cons, join_cs, List.map_map]
    have : ∀ m : List Nat, (m.map ((fun y => cs "" ++ cs y) ∘ fun c => (⟨#[c]⟩ : Str))).flatten = m := fun m => by
      induction m with
      | nil => rfl
      | cons d m ih => rw [List.map_cons, List.flatten_cons, ih]; simp [cs_empty]; rfl
    rw [this]; rfl
theorem cutS_len (x : Str) (lo hi : Option Int) : (cutS x lo hi).length ≤ x.length := by
  rw [← cs_len, ← cs_len]; unfold cutS; rw [cs_ofC]; exact cutC_len _ _ _
theorem str_len (x y : Str) : (x ++ y).length = x.length + y.length := by rw [← cs_len, cs_append, List.length_append, cs_len, cs_len]
theorem pick2b {P : Int → Prop} {x y c : Int} (hx : P x) (hy : P y) : ∃ v, P v ∧ atI [V.int x, V.int y] (c % 2) = some (V.int v) := by
  have : c % 2 = 0 ∨ c % 2 = 1 := by omega
  rcases this with h | h <;> rw [h]
  · exact ⟨x, hx, rfl⟩
  · exact ⟨y, hy, rfl⟩
theorem pick2 {x y c : Int} : ∃ v, atI [V.int x, V.int y] (c % 2) = some (V.int v) := by
  have : c % 2 = 0 ∨ c % 2 = 1 := by omega
  rcases this with h | h <;> rw [h]
  · exact ⟨x, rfl⟩
  · exact ⟨y, rfl⟩
theorem Reps.tups {K : PySem.W.Frag} {H H' : Hp} (h : ∀ a zs, SqT K H a zs → SqT K H' a zs) : ∀ {ls : List Ln} {xs : List V}, Reps K H xs (ls.map lineD) → Reps K H' xs (ls.map lineD)
  | [], _, r => by cases r; exact .nil
  | l :: ls, _, r => by
    rw [List.map_cons] at r ⊢
    cases r with
    | cons a t =>
      refine .cons ?_ (Reps.tups h t)
      unfold lineD at a ⊢
      cases a with
      | tup h1 h2 =>
        cases h2 with
        | cons p1 t1 => cases t1 with
          | cons p2 t2 => cases t2 with
            | cons p3 t3 => cases t3; cases p1; cases p2; cases p3; exact .tup (h _ _ h1) (.cons (.str _) (.cons (.str _) (.cons (.int _) .nil)))
/-- a line is put behind the others -/
theorem LinesAt.snoc {K : PySem.W.Frag} {H : Hp} {p t : Addr} {xs : List V} {ls : List Ln} (h1 : H p = some (.lst xs)) (h2 : Reps K H xs (ls.map lineD)) (ht : H t = none) (l : Ln) :
    LinesAt K (upd (upd H t (.tup [.str l.1, .str l.2.1, .int l.2.2])) p (.lst (xs ++ [.ref t]))) p (ls ++ [l]) := by
  have tp : t ≠ p := fun e => by rw [e, h1] at ht; cases ht
  refine ⟨_, upd_same, ?_⟩
  rw [List.map_append]
  refine Reps.append (Reps.tups (fun a zs q => ?_) h2) (.cons (.tup (.inl (.inl ?_)) (.cons (.str _) (.cons (.str _) (.cons (.int _) .nil)))) .nil)
  · rcases q with q | q
    · have ap : a ≠ p := fun e => by
        subst e
        rcases q with q | ⟨o, q⟩ <;> rw [h1] at q <;> cases q
      have at' : a ≠ t := fun e => by
        subst e
        rcases q with q | ⟨o, q⟩ <;> rw [ht] at q <;> cases q
      rcases q with q | ⟨o, q⟩
      · exact .inl (.inl (by rw [upd_ne ap, upd_ne at']; exact q))
      · exact .inl (.inr ⟨o, by rw [upd_ne ap, upd_ne at']; exact q⟩)
    · exact .inr q
  · rw [upd_ne tp, upd_same]
def hasD (kvs : List (Key × V)) : D → Bool | .str x => (valV kvs (Sum.inr x)).isSome | _ => false
def seenK (ss : List Str) : List (Key × V) := ss.map fun s => (Sum.inr s, .bl true)
theorem nodup_take {α : Type} {l : List α} {i : Nat} {x : α} (h : l.Nodup) (e : l[i]? = some x) : x ∉ l.take i := fun hm => by
  obtain ⟨j, hj⟩ := List.getElem?_of_mem hm
  rw [List.getElem?_take] at hj
  split at hj
  · rename_i hji
    obtain ⟨h1, e1⟩ := List.getElem?_eq_some_iff.mp hj
    obtain ⟨h2, e2⟩ := List.getElem?_eq_some_iff.mp e
    exact List.pairwise_iff_getElem.mp h j i h1 h2 hji (e1.trans e2.symm)
  · cases hj
/-- a loop over a dict's keys that changes other things -/
theorem forDm {o : Obj} {a : Addr} {kvs : List (Key × V)} {H1 H2 : Hp} {g : TG} {tb : TS} {D : Ends} {σ : St} (hr : H1 a = some (.dK kvs)) (fz : Fzn a o kvs H1 H2) (Pv : Nat → St → Hp → Prop) (h0 : H2 = upd H1 a (.frz o (.dK kvs)) → Pv 0 σ H2)
    (hh : ∀ i σ H, Pv i σ H → H a = some (.frz o (.dK kvs)))
    (hs : ∀ i k v σ H, kvs[i]? = some (k, v) → Pv i σ H → g (kV k) σ H fun σ2 H2 => tb { nx := Pv (i + 1), ct := Pv (i + 1), bk := (thawE a o kvs H1 D).nx, rt := (thawE a o kvs H1 D).rt } σ2 H2)
    (hd : ∀ σ H, Pv kvs.length σ H → D.nx σ (upd H a (.dK kvs))) : LoopVC (Itd a o kvs) g tb (thawE a o kvs H1 D) σ H2 := by
  have e2 : H2 = upd H1 a (.frz o (.dK kvs)) := by
    obtain ⟨h, e | ⟨_, e⟩⟩ := fz
    · rw [e, hr] at h; cases h
    · exact e
  refine ⟨fun i m σ H => m = kvs.length - i ∧ i ≤ kvs.length ∧ Pv i σ H, ⟨kvs.length, by simp, Nat.zero_le _, h0 e2⟩, ?_⟩
  rintro i m σ H ⟨rfl, hi, p⟩
  by_cases hlt : i < kvs.length
  · refine .inr ⟨⟨hh _ _ _ p, hlt⟩, Pv (i + 1), fun σ' H' q => ⟨kvs.length - (i + 1), by omega, rfl, hlt, q⟩, ?_⟩
    rintro x H' ⟨rfl, k, v, hx, rfl⟩
    exact hs i k v σ H' hx p
  · have e : i = kvs.length := by omega
    subst e
    refine .inl ⟨⟨hh _ _ _ p, Nat.le_refl _⟩, hh _ _ _ p, fun H3 t => ?_⟩
    rcases t with ⟨_, rfl⟩ | ⟨c, _⟩
    · exact hd σ H p
    · exact absurd hr c
def strengthD : D → Bool | .int i => decide (1 ≤ i) && decide (i ≤ 1000000000) | _ => false
def NS0 (H : Hp) (p : Addr) (ks : List Str) (g : Str → L2.Row) (H2 : Hp) : Prop := ∃ bs, Same H H2 ∧ NetAt H2 p bs g ∧ bs.map (·.1) = ks ∧ New H p bs
end L2

set_option Elab.async false
set_option linter.all false
set_option maxRecDepth 100000
/-! more of TEXTS: split, partition, f-strings, int(text); try; reversed (own work) -/
namespace L2
open PySem PySem.Spec PyProof.Rows
section
variable {X : Cx}
/-- f-strings -/
abbrev TF := St → Hp → Str → VK → Prop
def PF (X : Cx) (es : List Expr) (t : TF) : Prop :=
  ∀ (pins : List (Addr × Obj)) (s : Shared) (σ : St) (H : Hp) (out : Str) (Q : VK), Inv X pins σ H s → t σ H out Q → wpAny (model X.prog X.w) X.A (joinParts out (evalEach es X.env)) (EP X pins σ Q) X.xe s
def fNil : TF := fun _ H out Q => out.length ≤ sizeLine ∧ Q (.str out) H
def fTxt (x : Str) (r : TF) : TF := fun σ H out Q => (out ++ x).length ≤ sizeLine ∧ r σ H (out ++ x) Q
def fmtV (v : V) (z : Str) : Prop := (∃ y, v = .str y ∧ z = y ∧ y.length ≤ sizeLine) ∨ ∃ i : Int, v = .int i ∧ z = toString i ∧ i.natAbs.log2 < 1920
def fVal (te : TE) (r : TF) : TF := fun σ H out Q => te σ H fun v H1 => ∃ z, fmtV v z ∧ (out ++ z).length ≤ sizeLine ∧ r σ H1 (out ++ z) Q
end
/-- a list, from its end -/
def Itrv (K : PySem.W.Frag) (a : Addr) (xs : List V) : It :=
  ⟨fun i H => SqL K H a xs ∧ i < xs.length, fun i H x H' => H' = H ∧ xs[xs.length - 1 - i]? = some x, fun i H => SqL K H a xs ∧ i = xs.length⟩
def iRev (K : PySem.W.Frag) (ta : TA) : TI := fun σ H R => ta σ H fun vs H1 => ∃ a xs, vs = [.ref a] ∧ SqL K H1 a xs ∧ R (Itrv K a xs) H1
section
variable {X : Cx} {tg : Expr}
end
end L2

set_option Elab.async false
set_option linter.all false
set_option maxRecDepth 100000
set_option maxHeartbeats 4000000
/-! nets as texts: shown and read (own work) -/
namespace L2
open PySem PySem.Spec PyProof.Rows
/-! ### split is undone join -/
def splitL (c : Nat) : List Nat → List (List Nat)
  | [] => [[]]
  | d :: r => if d = c then [] :: splitL c r else match splitL c r with | [] => [[d]] | p :: ps => (d :: p) :: ps
def joinL (c : Nat) : List (List Nat) → List Nat
  | [] => []
  | [p] => p
  | p :: q :: r => p ++ c :: joinL c (q :: r)
/-! ### numbers -/
abbrev numS (v : Int) : Str := toString v
/-! ### a net's text -/
abbrev c1 (c : Nat) : Str := ⟨#[c]⟩
def endS (f : Str → Row) (x y : Str) : Str := " " ++ y ++ " " ++ numS ((look (f x) y).getD 0)
def ysOf (f : Str → Row) (x : Str) : List Str := (sortS ((f x).map (·.1))).filter fun y => decide (sLt x y)
def tailS (f : Str → Row) (x : Str) : Str := joinS "," ((ysOf f x).map (endS f x))
def rowS (f : Str → Row) (x : Str) : Str := x ++ ":" ++ tailS f x
def netS (ks : List Str) (f : Str → Row) : Str := joinS "\n" ((sortS ks).map (rowS f))
section
variable {ks : List Str} {f : Str → Row} {B : Int}
end
end L2

set_option Elab.async false
set_option linter.all false
set_option maxRecDepth 100000
set_option maxHeartbeats 4000000
namespace L2
open PySem PySem.Spec PyProof.Rows
def figS : Str := "0123456789"
def wrD : D → Bool
  | .str x => decide (1 ≤ x.length) && decide (x.length ≤ 10) && ((cs x).all fun c => decide (c ∈ cs figS)) && (decide (x = "0") || !decide ((cs x).head? = some 48))
  | _ => false
/-- a net that can be shown and read -/
structure GT (ks : List Str) (f : Str → Row) : Prop where
  g : GNet ks f 1000000000
  nm : ∀ x ∈ ks, isNm x
  len : ks.length ≤ 12
  nd : ks.Nodup
section
variable {ks : List Str} {f : Str → Row}
theorem GT.end (h : GT ks f) {x y : Str} (hx : x ∈ ks) (hy : y ∈ (f x).map (·.1)) : y ∈ ks ∧ isNm y ∧ ∃ v, look (f x) y = some v ∧ (look (f x) y).getD 0 = v ∧ 1 ≤ v ∧ v ≤ 1000000000 := by
  obtain ⟨v, hv⟩ := look_some_iff.mpr hy
  obtain ⟨a, b, c⟩ := h.g.val x y v hx hv
  exact ⟨a, h.nm y a, v, hv, by rw [hv]; rfl, b, c⟩
theorem GT.row (h : GT ks f) {x : Str} (hx : x ∈ ks) : (f x).length ≤ 12 := by
  have : ((f x).map (·.1)).length ≤ ks.length := nd_len (h.g.nd x hx) fun y hy => (h.end hx hy).1
  rw [List.length_map] at this
  have := h.len
  omega
/-! ### read back -/
end
end L2

set_option Elab.async false
set_option linter.all false
set_option maxRecDepth 100000
set_option maxHeartbeats 4000000
namespace L2
open PySem PySem.Spec PyProof.Rows
end L2

set_option Elab.async false
set_option linter.all false
set_option maxRecDepth 100000
set_option maxHeartbeats 4000000
/-! EXCEPTIONS: a record that flies out of a frame (own work) -/
namespace L2
open PySem PySem.Spec PyProof.Rows
/-- what a passing exception leaves behind: x has got the entry T; the frames' slots and the entry ahead may be others -/
structure Lft (fs : List Addr) (x : Addr) (oe : Obj) (vs : Array Value) (h h' : Heap) (T : Addr) : Prop where
  keep : ∀ b o, b ∉ fs → b ≠ x → vs[1]? ≠ some (.ref b) → h.get? b = some o → h'.get? b = some o
  slot : ∀ b o, b ∈ fs → h.get? b = some o → ∃ sl, h'.get? b = some { o with slots := sl }
  there : ∀ b o, h.get? b = some o → ∃ o', h'.get? b = some o'
  rc : ∃ (vs' : Array Value) (oT : Obj) (ts : Array Value), h'.get? x = some { oe with data := .fields vs' } ∧ vs'[1]? = some (.ref T) ∧ h'.get? T = some oT ∧ oT.data = .fields ts ∧ ts[3]? = some .none
  new : h.objs.size ≤ T
section
variable {M : Model} {A : Around} {E : Value → Shared → Prop} {s : Shared}
end
end L2

set_option Elab.async false
set_option linter.all false
set_option maxRecDepth 100000
set_option maxHeartbeats 4000000
namespace L2
open PySem PySem.Spec PyProof.Rows
abbrev bmV : List Value := [.type "ValueError", .type "Exception", .type "BaseException", .type "object"]
/-- a class two steps under ValueError: C under D, which has no __init__ of its own; C's own is fI -/
structure XCls (K : PySem.W.Frag) (C D : Addr) (fI : Addr) : Prop where
  obj : ∃ nm q N bs sn sub ab col dd k0 k1 k2 k3 k5, K.lookup C = some (excClassObj nm q C N bs (.ref D :: bmV) true sn sub ab col dd k0 k1 k2 k3 k5 "ValueError.__new__")
  tl : ∀ h : Heap, K.In h → OwnTail h bmV (.ref D :: bmV)
  ini : PySem.W.findIn K (.ref C) "__init__" = some (some (.ref fI))
  sa : PySem.W.findIn K (.ref C) "__setattr__" = some (some (.builtin "object.__setattr__"))
  fn : PySem.W.isFn K (.ref fI) = true
  kp : PySem.W.keepIn K (.ref C) = true
section
variable {prog : Program} {w : World} {A : Around} {E : Value → Shared → Prop} {h : Heap} {g : Array GenState} {d : Drawn} {t : Nat} {os : OsState}
variable {nm q : Str} {C N D fI : Addr} {bs : List Value} {sn : List Str} {sub : List Value} {ab : Bool} {col : Option Bool} {dd : Option Addr} {k0 k1 k2 k3 k5 : Option Value}
/-- what a store leaves -/
def StoX (h h' : Heap) (x C : Addr) (mA : Str → Option Value) (name : Str) (v : Value) : Prop := h'.Inst x C (fun y => if y = name then some v else mA y) ∧ (∀ b o, b ≠ x → (∀ o₀ dx, h.get? x = some o₀ → o₀.dict = some dx → b ≠ dx) → h.get? b = some o → h'.get? b = some o) ∧
  ∀ o₀, h.get? x = some o₀ → ∃ dx, h'.get? x = some { o₀ with dict := some dx } ∧ ((o₀.dict = some dx) ∨ (o₀.dict = none ∧ dx = h.objs.size))
end
end L2

set_option Elab.async false
set_option linter.all false
set_option maxRecDepth 100000
set_option maxHeartbeats 4000000
namespace L2
open PySem PySem.Spec PyProof.Rows
/-- an exception's record; its dict -/
def ExcAt (x C : Addr) (od : Option Addr) : Heap → Prop := fun h => ∃ vs, h.get? x = some ({ cls := .ref C, dict := od, data := .fields vs } : Obj)
def XdAt (dx : Addr) (fs : List (Str × V)) : Heap → Prop := fun h => ∃ mA, h.Ns1 dx mA ∧ (∀ f, RelO (fs.lookup f) (mA f)) ∧ PySem.Within mA (fs.map (·.1))
theorem excOk {P : Program} {w : World} {H : Hp} {h : Heap} {x C : Addr} {od : Option Addr} (e : ExcAt x C od h) : ObjOk P w H h x (.ext (ExcAt x C od)) :=
  ⟨e, let ⟨_, q⟩ := e; ⟨_, q⟩, fun _ _ ⟨vs, q⟩ k => ⟨vs, k _ q⟩⟩
/-- its trace: none yet, or an entry that is younger than n and not tracked -/
def Trc (n : Nat) (H : Hp) (x : Addr) (h : Heap) : Prop := ∃ oe vs, h.get? x = some oe ∧ oe.data = .fields vs ∧ (vs[1]? = some Value.none ∨ ∃ T oT ts, vs[1]? = some (.ref T) ∧ T ≠ x ∧ n ≤ T ∧ H T = none ∧ h.get? T = some oT ∧ oT.data = .fields ts ∧ ts[3]? = some Value.none)
/-- an exception that has come out of a call -/
def CXe (P : Program) (w : World) : CXT := fun outer H s E e s' => ∃ (x C : Addr) (od : Option Addr) (H' : Hp), e = .ref x ∧ s'.os = s.os ∧ AllBare s'.gens ∧ Un (frs outer) [] H H' s.heap s'.heap ∧ HOk P w H' s'.heap ∧
  H' x = some (.ext (ExcAt x C od)) ∧ s.heap.objs.size ≤ x ∧ Trc s.heap.objs.size H' x s'.heap ∧ E (.ref x) od H'
section
variable {P : Program} {w : World} {K : PySem.W.Frag} {mg : Str → Option Value} {base : Heap} {N : List Str} {qual : Str} {scope : Scope} {f : Addr} {cd : Value} {A : Around} {outer : List Env} {s₀ s : Shared} {H₀ H : Hp} {E : XK} {pins : List (Addr × Obj)} {σ : St}
/-- THE RULE for a def that may raise -/
theorem Fun.okX {x qual : Str} {st : Stmt} {f : Addr} {fd : FuncData} {N ps : List Str} {k : Nat} {sp : Sp} (F : Fun K x qual st f fd) (S : FnScope N ps (defScope st)) (len : ∀ vs H Q E, sp vs H Q E → vs.length = ps.length)
    (hbody : ∀ (cdv : Value) (A : Around) (outer : List Env) (s : Shared) (H : Hp) (vs : List V) (Q : VK) (E : XK), Room k (A.deeper (envOfC qual (defScope st) s.heap.objs.size f cdv)) → sp vs H Q E →
      ∃ t, PSs (cxOf (CXe P w) P w K mg base N qual (defScope st) f cdv A outer s H E) (defBody st) t ∧ t { nx := fun _ H' => Q .non H', rt := Q } (start N vs) H) : FnOk P w K mg base (CXe P w) (k + 1) f fd ps sp := by
  obtain ⟨oc, od, kV, doc, pm, an, cdv, ct, osl, rfl, lk, hcd⟩ := F.ex
  exact fn_of lk hcd S len fun A outer s H vs Q E hr hsp => hbody cdv A outer s H vs Q E hr hsp
end
end L2

set_option Elab.async false
set_option linter.all false
set_option maxRecDepth 100000
set_option maxHeartbeats 4000000
namespace L2
open PySem PySem.Spec PyProof.Rows
/-- a record that was made and not raised yet -/
def ExcNew (x C : Addr) (od : Option Addr) : Heap → Prop := fun h => ∃ t : Addr, h.get? x = some ({ cls := .ref C, dict := od, data := .fields #[.ref t, .none, .none, .none, .bool false, .none] } : Obj)
section
variable {X : Cx} {pins : List (Addr × Obj)} {σ : St} {H : Hp} {s : Shared} {A : Around} {E : Value → Shared → Prop} {x C D dx : Addr} {fI : Addr} {f : Str}
theorem Inv.weaken {φ ψ : Heap → Prop} (I : Inv X pins σ H s) (e : H x = some (.ext φ)) (k : φ s.heap → ObjOk X.prog X.w (upd H x (.ext ψ)) s.heap x (.ext ψ)) : Inv X pins σ (upd H x (.ext ψ)) s := by
  obtain ⟨p, ⟨o, ho⟩, _⟩ := (show ObjOk X.prog X.w H s.heap x (.ext φ) from I.hok x _ e)
  exact I.write (x := x) (e := x) (h' := s.heap) (t' := s.toks) (by rw [e]; exact True.intro) (.inl rfl) (fun _ _ _ z => z) ⟨o, ho⟩ (k p)
theorem XCls.at (c : XCls X.K C D fI) (I : Inv X pins σ H s) : ∃ nm q N bs sn sub ab col dd k0 k1 k2 k3 k5, s.heap.get? C = some (excClassObj nm q C N bs (.ref D :: bmV) true sn sub ab col dd k0 k1 k2 k3 k5 "ValueError.__new__") := by
  obtain ⟨nm, q, N, bs, sn, sub, ab, col, dd, k0, k1, k2, k3, k5, l⟩ := c.obj
  exact ⟨nm, q, N, bs, sn, sub, ab, col, dd, k0, k1, k2, k3, k5, I.kIn _ _ l⟩
end
/-- self.f = value, of a new record -/
def sXset (K : PySem.W.Frag) (ta tv : TE) (f : Str) : TS := fun Dn σ H => tv σ H fun y H1 => ta σ H1 fun v H2 => ∃ x C D fI od, v = .ref x ∧ XCls K C D fI ∧ NoAttr K C f ∧ H2 x = some (.ext (ExcNew x C od)) ∧
  ((od = none ∧ ∀ dx, H2 dx = none → dx ≠ x → Dn.nx σ (upd (upd H2 dx (.ext (XdAt dx [(f, y)]))) x (.ext (ExcNew x C (some dx))))) ∨
   ∃ dx fs, od = some dx ∧ H2 dx = some (.ext (XdAt dx fs)) ∧ dx ≠ x ∧ fs.length ≤ 100 ∧ Dn.nx σ (upd H2 dx (.ext (XdAt dx (putF f y fs)))))
section
variable {X : Cx} {o value : Expr} {f : Str} {pos pos' : Pos} {ta tv : TE}
end
end L2

set_option Elab.async false
set_option linter.all false
set_option maxRecDepth 100000
set_option maxHeartbeats 4000000
namespace L2
open PySem PySem.Spec PyProof.Rows
section
variable {X : Cx} {k : Nat} {C D fI : Addr} {fd : FuncData} {ps : List Str} {sp : Sp}
end
/-- what raising asks -/
def tRaise (C : Addr) (sp : Sp) (E : XK) (ta : TA) : TS := fun _ σ H => ta σ H fun vs H1 => vs.length ≤ 100 ∧ ∀ x, H1 x = none → sp (.ref x :: vs) (upd H1 x (.ext (ExcNew x C none))) (fun v H2 => v = .non ∧ ∃ od, H2 x = some (.ext (ExcNew x C od)) ∧ E (.ref x) od (upd H2 x (.ext (ExcAt x C od)))) E0
section
variable {P : Program} {w : World} {K : PySem.W.Frag} {mg : Str → Option Value} {base : Heap} {N : List Str} {qual : Str} {scope : Scope} {f : Addr} {cd : Value} {A : Around} {outer : List Env} {s₀ : Shared} {H₀ : Hp} {E : XK} {k : Nat} {C D fI : Addr} {fd : FuncData} {ps : List Str} {sp : Sp}
end
end L2

set_option Elab.async false
set_option linter.all false
set_option maxRecDepth 100000
set_option maxHeartbeats 4000000
namespace L2
open PySem PySem.Spec PyProof.Rows
section
variable {M : Model} {A : Around} {E : Value → Shared → Prop} {s : Shared}
end
/-- the entry of a caught record -/
def Ent (x T : Addr) (h : Heap) : Prop := ∃ oe vs oT ts, h.get? x = some oe ∧ oe.data = .fields vs ∧ vs[1]? = some (.ref T) ∧ h.get? T = some oT ∧ oT.data = .fields ts ∧ ts[3]? = some Value.none
section
variable {X : Cx} {pins : List (Addr × Obj)} {σ : St} {H : Hp} {s : Shared} {A : Around} {E : Value → Shared → Prop} {x C T : Addr} {od : Option Addr}
theorem Inv.left {oe : Obj} {vs : Array Value} {h' : Heap} (I : Inv X pins σ H s) (hx : H x = some (.ext (ExcAt x C od))) (he : s.heap.get? x = some oe) (hd : oe.data = .fields vs) (ht : ∀ b, vs[1]? = some (.ref b) → FpOk X pins H b) (L : Lft (frs X.stack) x oe vs s.heap h' T) : Inv X pins σ H { s with heap := h' } := by
  have nx : ∀ {b : Addr}, H b = none → b ≠ x := fun n z => by rw [z, hx] at n; cases n
  obtain ⟨m, ⟨o0, es, ep, ho, r⟩, _⟩ := id I.loc
  have key : ∀ (ch : List Addr), (∀ b, vs[1]? = some (.ref b) → b ∈ ch) → (∀ b ∈ ch, FpOk X pins H b) → Inv X pins σ H { s with heap := h' } := fun ch c1 c2 => by
    have keep : ∀ b o, b ∉ frs X.stack → b ≠ x → b ∉ ch → s.heap.get? b = some o → h'.get? b = some o := fun b o hb hbx hc e => L.keep b o hb hbx (fun z => hc (c1 b z)) e
    have any : ∀ b o, b ≠ x → b ∉ ch → s.heap.get? b = some o → ∃ sl, h'.get? b = some { o with slots := sl } := fun b o hbx hc e => by
      by_cases z : b ∈ frs X.stack
      · exact L.slot b o z e
      · exact ⟨o.slots, keep b o z hbx hc e⟩
    have nch : ∀ {b : Addr} {u : HO}, H b = some u → b ∉ ch := fun q z => by rw [(c2 _ z).1] at q; cases q
    have nst : ∀ {b : Addr} {u : HO}, H b = some u → b ∉ frs X.stack := fun q z => by rw [I.stkFree _ z] at q; cases q
    refine I.step (g' := s.gens) (d' := s.drawn) (t' := s.toks) (ch := ch) (fun b hb => ⟨(c2 b hb).2.2.2.1, (c2 b hb).2.1, (c2 b hb).2.2.2.2.1, (c2 b hb).2.2.2.2.2⟩) (fun b o hL hb hc e n => keep b o (fun z => (List.mem_cons.mp (I.stkSub b z)).elim hL hb) (nx n) hc e) (fun b o _ _ hc e n => any b o (nx n) hc e) (fun _ _ _ _ n => n) (fun b o _ e => L.there b o e) (fun _ _ e => e) (fun _ _ _ e => e) (fun b ps e => ⟨#[], by rw [e]; simp⟩) (fun m' hm => ?_) (fun b u e => ?_) I.bare
    · obtain ⟨o', es', ep', ho', r'⟩ := hm
      obtain ⟨sl, hL⟩ := any X.env.locals o' (nx I.free) (fun z => (c2 _ z).2.1 rfl) ho'
      exact ⟨_, es', ep', hL, r'⟩
    · by_cases hb : b = x
      · subst hb
        rw [hx] at e
        cases e
        obtain ⟨⟨vs0, q0⟩, _⟩ := (show ObjOk X.prog X.w H s.heap b (.ext (ExcAt b C od)) from I.hok b _ hx)
        rw [he] at q0
        obtain rfl := Option.some.inj q0
        obtain ⟨vs', oT, ts, r1, _⟩ := L.rc
        exact excOk ⟨vs', r1⟩
      · refine (I.hok b u e).stay (fun c v hc q => ?_) (fun c q => q) (fun c xs q => q)
        rcases hc with rfl | hc
        · exact keep c v (nst e) hb (nch e) q
        · exact keep c v (nst hc) (fun z => by rw [z, hx] at hc; cases hc) (nch hc) q
  cases hv : vs[1]? with
  | none => exact key [] (fun b z => by rw [hv] at z; cases z) (fun _ z => nomatch z)
  | some w =>
    cases w with
    | ref b => exact key [b] (fun b' z => by rw [hv] at z; cases z; simp) (fun b' z => by
        have e : b' = b := by simpa using z
        rw [e]; exact ht b hv)
    | _ => exact key [] (fun b z => by rw [hv] at z; cases z) (fun _ z => nomatch z)
end
end L2

set_option Elab.async false
set_option linter.all false
set_option maxRecDepth 100000
set_option maxHeartbeats 4000000
namespace L2
open PySem PySem.Spec PyProof.Rows
/-- a class of exceptions: its bases in their order -/
def XMr (K : PySem.W.Frag) (C : Addr) (l : List Value) : Prop := ∃ nm q N bs sn sub ab col dd k0 k1 k2 k3 k5, K.lookup C = some (excClassObj nm q C N bs l true sn sub ab col dd k0 k1 k2 k3 k5 "ValueError.__new__")
theorem XCls.mr {K : PySem.W.Frag} {C D fI : Addr} (c : XCls K C D fI) : XMr K C (.ref D :: bmV) := c.obj
/-- within an except suite -/
def Cx.hdl (X : Cx) (x : Addr) : Cx := { X with A := X.A.mark (some (.ref x)), calm := false, xe := fun _ _ => False }
def Cx.quiet (X : Cx) : Cx := { X with xe := fun _ _ => False }
section
variable {X : Cx} {pins : List (Addr × Obj)} {σ : St} {H : Hp} {s : Shared} {A : Around} {E : Value → Shared → Prop} {x C T : Addr} {od : Option Addr}
theorem Inv.to (I : Inv X pins σ H s) : Inv (X.hdl x) pins σ H s :=
  ⟨⟨I.ok.mod, I.ok.kind, I.ok.glob, I.ok.blt, I.ok.above, I.ok.inj, I.ok.has, I.ok.cab, (fun z => by cases z), I.ok.frames, I.ok.stk, I.ok.exf, I.ok.bs, I.ok.bsz, I.ok.noex, I.ok.exfs, I.ok.funs, I.ok.frf⟩, I.os, I.bare, I.base, I.loc, I.cell, I.free, I.freeC, I.pin, I.hok, I.len⟩
end
/-- what the except clauses ask -/
abbrev TH := Ends → St → Hp → Addr → Addr → Option Addr → Prop
def PH (X : Cx) (hs : List ExceptHandler) (t : TH) : Prop := ∀ (pins : List (Addr × Obj)) (s : Shared) (σ : St) (H : Hp) (D : Ends) (x C : Addr) (od : Option Addr) (T : Addr), Inv X pins σ H s → H x = some (.ext (ExcAt x C od)) → FpOk X pins H T → Ent x T s.heap → t D σ H x C od →
  wpAny (model X.prog X.w) X.A (handleBy (.ref x) X.env hs) (SP X pins D) X.xe s
def tHit (K : PySem.W.Frag) (C' : Addr) (i : Nat) (ts : TS) (tr : TH) : TH := fun D σ H x C od => ∃ l, XMr K C l ∧ ((Value.ref C :: l).contains (.ref C') = true → ts { nx := fun σ' H' => D.nx (σ'.set i none) H', rt := D.rt, bk := fun σ' H' => D.bk (σ'.set i none) H', ct := fun σ' H' => D.ct (σ'.set i none) H' } (σ.set i (some (.ref x))) H) ∧
  ((Value.ref C :: l).contains (.ref C') = false → tr D σ H x C od)
def tMiss : TH := fun _ _ _ _ _ _ => False
section
variable {X : Cx}
end
/-- n = f(..) within a try -/
def tTryA (sp : Sp) (i : Nat) (ta : TA) (th : TH) : TS := fun D σ H => ta σ H fun vs H1 => sp vs H1 (fun v H2 => D.nx (σ.set i (some v)) H2) (fun xv od H2 => ∃ x C, xv = .ref x ∧ H2 x = some (.ext (ExcAt x C od)) ∧ th D σ H2 x C od)
section
variable {X : Cx} {k : Nat} {f : Addr} {fd : FuncData} {ps : List Str} {sp : Sp}
end
end L2

set_option Elab.async false
set_option linter.all false
set_option maxRecDepth 100000
set_option maxHeartbeats 4000000
namespace L2
open PySem PySem.Spec PyProof.Rows
section
variable {prog : Program} {w : World} {A : Around} {E : Value → Shared → Prop} {h : Heap} {g : Array GenState} {d : Drawn} {t : Nat} {os : OsState}
variable {nm q : Str} {C N x : Addr} {l bs : List Value} {sn : List Str} {sub : List Value} {ab : Bool} {col : Option Bool} {dd : Option Addr} {k0 k1 k2 k3 k5 : Option Value} {K : PySem.W.Frag} {o : Obj}
end
end L2

set_option Elab.async false
set_option linter.all false
set_option maxRecDepth 100000
set_option maxHeartbeats 4000000
namespace L2
open PySem PySem.Spec PyProof.Rows
/-- what a class of exceptions looks like to a reader -/
structure XGet (K : PySem.W.Frag) (C : Addr) (l : List Value) : Prop where
  mr : XMr K C l
  be : l.contains (.type "BaseException") = true
  ob : l.contains (.type "object") = true
  ga : PySem.W.findIn K (.ref C) "__getattribute__" = some (some (.builtin "BaseException.__getattribute__"))
  gt : PySem.W.findIn K (.ref C) "__getattr__" = some none
  cl : PySem.W.findIn K (.ref C) "__class__" = some (some (.builtin "object.__class__"))
section
variable {X : Cx} {pins : List (Addr × Obj)} {σ : St} {H : Hp} {s : Shared} {A : Around} {E : Value → Shared → Prop} {x C dx : Addr} {l : List Value} {f : Str}
end
/-- e.f -/
def tXget (K : PySem.W.Frag) (ta : TE) (f : Str) : TE := fun σ H Q => ta σ H fun v H1 => ∃ x C l dx fs y, v = .ref x ∧ XGet K C l ∧ NoAttr K C f ∧ H1 x = some (.ext (ExcAt x C (some dx))) ∧ H1 dx = some (.ext (XdAt dx fs)) ∧ dx ≠ x ∧ fs.lookup f = some y ∧ Q y H1
section
variable {X : Cx} {e : Expr} {f : Str} {pos : Pos} {ta : TE}
end
end L2

set_option Elab.async false
set_option linter.all false
set_option maxRecDepth 100000
set_option maxHeartbeats 4000000
namespace L2
open PySem PySem.Spec PyProof.Rows
/-- a class of exceptions of the program, with an __init__ of its own -/
structure XTop (K : PySem.W.Frag) (mg : Str → Option Value) (nm qual : Str) (st : Stmt) (ps : List Str) (C D fI : Addr) (fd : FuncData) : Prop where
  cls : XCls K C D fI
  get : XGet K C (.ref D :: bmV)
  mg : mg nm = some (.ref C)
  fn : Fun K "__init__" qual st fI fd
  bd : Binds K fd ps []
end L2

set_option Elab.async false
set_option linter.all false
set_option maxRecDepth 100000
set_option maxHeartbeats 4000000
namespace L2
open PySem PySem.Spec PyProof.Rows PySem.SeqAt
open AutoSeq1 (wpAny_loadPart')
section
variable {M : Model} {A : Around} {E : Value → Shared → Prop} {s : Shared}
end
/-- whether data is another thing than a whole number -/
def neI (d : D) (n : Int) : Bool := match d with
  | .int i => !(i == n)
  | .bl b => !((if b then 1 else 0) == n)
  | _ => true
section
variable {X : Cx}
end
end L2

set_option Elab.async false
set_option linter.all false
set_option maxRecDepth 100000
set_option maxHeartbeats 4000000
namespace L2
open PySem PySem.Spec PyProof.Rows
section
variable {X : Cx}
end
def outS (lo hi : Nat) (x : Str) : List Nat := (cs x).filter fun c => !(decide (lo ≤ c) && decide (c ≤ hi))
def outV (lo hi : Nat) (x : Str) (i : Nat) : List V := (((cs x).take i).filter fun c => !(decide (lo ≤ c) && decide (c ≤ hi))).map fun c => V.str ⟨#[c]⟩
/-- the number that a text writes -/
def readN (x : Str) : Int := ((NumText.digitsVal x.cps.toList : Nat) : Int)
end L2

set_option Elab.async false
set_option linter.all false
set_option maxRecDepth 100000
set_option maxHeartbeats 4000000
/-! nets joined and nets without lines (own work) -/
namespace L2
open PySem PySem.Spec PyProof.Rows
/-! ### lines joined -/
def joinF (g : Str → Row) (l : Ln) : Str → Row := putB g l.1 l.2.1 ((look (g l.1) l.2.1).getD 0 + l.2.2)
def joinsF (g : Str → Row) (ls : List Ln) : Str → Row := ls.foldl joinF g
/-- lines whose ends are two places -/
def Ends2 (ss : List Str) (ls : List Ln) : Prop := ∀ l ∈ ls, l.1 ∈ ss ∧ l.2.1 ∈ ss ∧ l.1 ≠ l.2.1
/-- rows of places, each once -/
structure RowsIn (ss : List Str) (g : Str → Row) : Prop where
  nd : ∀ x ∈ ss, ((g x).map (·.1)).Nodup
  inn : ∀ x ∈ ss, ∀ y ∈ (g x).map (·.1), y ∈ ss
theorem RowsIn.nil (ss : List Str) : RowsIn ss (fun _ => []) := ⟨fun _ _ => List.nodup_nil, fun _ _ _ h => absurd h (by simp)⟩
theorem RowsIn.len {ss : List Str} {g : Str → Row} (h : RowsIn ss g) {x : Str} (hx : x ∈ ss) : (g x).length ≤ ss.length := by
  have := nd_len (h.nd x hx) (h.inn x hx)
  rwa [List.length_map] at this
theorem RowsIn.put {ss : List Str} {g : Str → Row} (h : RowsIn ss g) {x y : Str} {v : Int} (hx : x ∈ ss) (hy : y ∈ ss) (hne : x ≠ y) : RowsIn ss (putB g x y v) := by
  refine ⟨fun a ha => putB_nd (h.nd x hx) (h.nd y hy) (h.nd a ha) hne, fun a ha b hb => ?_⟩
  obtain ⟨w, hw⟩ := look_some_iff.mpr hb
  rw [look_putB hne] at hw
  by_cases c : (a = x ∧ b = y) ∨ (a = y ∧ b = x)
  · rcases c with ⟨_, q⟩ | ⟨_, q⟩
    · rw [q]; exact hy
    · rw [q]; exact hx
  · rw [if_neg c] at hw
    exact h.inn a ha b (look_some_iff.mp ⟨w, hw⟩)
theorem RowsIn.joins {ss : List Str} : ∀ {ls : List Ln} {g : Str → Row}, RowsIn ss g → Ends2 ss ls → RowsIn ss (joinsF g ls)
  | [], _, h, _ => h
  | l :: ls, g, h, e => by
    obtain ⟨h1, h2, h3⟩ := e l (by simp)
    exact RowsIn.joins (ls := ls) (g := joinF g l) (h.put h1 h2 h3) fun m hm => e m (List.mem_cons_of_mem _ hm)
theorem Ends2.take {ss : List Str} {ls : List Ln} (e : Ends2 ss ls) (i : Nat) : Ends2 ss (ls.take i) := fun l hl => e l (List.mem_of_mem_take hl)
/-- two nets alike at these places -/
def EqN (ss : List Str) (g g' : Str → Row) : Prop := ∀ x ∈ ss, ∀ y, look (g x) y = look (g' x) y
theorem EqN.join {ss : List Str} {g g' : Str → Row} (h : EqN ss g g') {l : Ln} (h1 : l.1 ∈ ss) (hne : l.1 ≠ l.2.1) : EqN ss (joinF g l) (joinF g' l) := fun x hx y => by
  unfold joinF
  rw [look_putB hne, look_putB hne, h x hx y, h l.1 h1]
theorem EqN.joins {ss : List Str} : ∀ {ls : List Ln} {g g' : Str → Row}, EqN ss g g' → Ends2 ss ls → EqN ss (joinsF g ls) (joinsF g' ls)
  | [], _, _, h, _ => h
  | l :: ls, g, g', h, e => EqN.joins (ls := ls) (g := joinF g l) (g' := joinF g' l) (h.join (e l (by simp)).1 (e l (by simp)).2.2) fun m hm => e m (List.mem_cons_of_mem _ hm)
/-- a net whose strengths have some bound -/
def GN (ks : List Str) (f : Str → Row) : Prop := ∃ B : Int, 0 ≤ B ∧ GNet ks f B
theorem GNet.mono {ks : List Str} {f : Str → Row} {B B' : Int} (g : GNet ks f B) (h : B ≤ B') : GNet ks f B' := ⟨g.sym, g.irr, fun x y v hx hv => let ⟨a, b, c⟩ := g.val x y v hx hv; ⟨a, b, Int.le_trans c h⟩, g.nd⟩
theorem GN.rows {ks : List Str} {f : Str → Row} (g : GN ks f) : RowsIn ks f := by
  obtain ⟨B, _, g⟩ := g
  exact ⟨g.nd, fun x hx y hy => by obtain ⟨v, hv⟩ := look_some_iff.mpr hy; exact (g.val x y v hx hv).1⟩
theorem GN.join {ks : List Str} {f : Str → Row} (g : GN ks f) {l : Ln} (h1 : l.1 ∈ ks) (h2 : l.2.1 ∈ ks) (hne : l.1 ≠ l.2.1) (hv : 1 ≤ l.2.2) : GN ks (joinF f l) := by
  obtain ⟨B, hB, g⟩ := g
  refine ⟨B + l.2.2, by omega, ?_⟩
  have hm := g.mono (B' := B + l.2.2) (by omega)
  cases e : look (f l.1) l.2.1 with
  | none =>
    unfold joinF
    rw [e]
    exact hm.put h1 h2 hne (by simp; omega) (by simp; omega)
  | some v =>
    obtain ⟨_, a, b⟩ := g.val _ _ _ h1 e
    unfold joinF
    rw [e]
    exact hm.put h1 h2 hne (by simp; omega) (by simp; omega)
theorem GN.joins {ks : List Str} : ∀ {ls : List Ln} {f : Str → Row}, GN ks f → Ends2 ks ls → (∀ l ∈ ls, 1 ≤ l.2.2) → GN ks (joinsF f ls)
  | [], _, h, _, _ => h
  | l :: ls, f, h, e, v => by
    obtain ⟨h1, h2, h3⟩ := e l (by simp)
    exact GN.joins (ls := ls) (f := joinF f l) (h.join h1 h2 h3 (v l (by simp))) (fun m hm => e m (List.mem_cons_of_mem _ hm)) fun m hm => v m (List.mem_cons_of_mem _ hm)
theorem GN.perm {ks ks' : List Str} {f g : Str → Row} (h : GN ks f) (p : ks'.Perm ks) (e : EqN ks' g f) (nd : ∀ x ∈ ks', ((g x).map (·.1)).Nodup) : GN ks' g := by
  obtain ⟨B, hB, h⟩ := h
  refine ⟨B, hB, fun x y hx hy => ?_, fun x hx => ?_, fun x y v hx hv => ?_, nd⟩
  · rw [e x hx, e y hy]; exact h.sym x y (p.mem_iff.mp hx) (p.mem_iff.mp hy)
  · rw [e x hx]; exact h.irr x (p.mem_iff.mp hx)
  · rw [e x hx] at hv
    obtain ⟨a, b⟩ := h.val x y v (p.mem_iff.mp hx) hv
    exact ⟨p.mem_iff.mpr a, b⟩
/-! ### lines taken out -/
abbrev Pr := Str × Str
def cutB (ps : List Pr) (x y : Str) : Bool := ps.any fun p => decide ((p.1 = x ∧ p.2 = y) ∨ (p.1 = y ∧ p.2 = x))
def badP (ks : List Str) (f : Str → Row) (p : Pr) : Bool := !(decide (p.1 ∈ ks) && (look (f p.1) p.2).isSome)
def dropRow (l : Row) (y : Str) : Row := l.filter fun e => decide (e.1 ≠ y)
def dropR (f : Str → Row) (x y : Str) : Str → Row := fun z => if z = x then dropRow (f x) y else f z
def cutF (f : Str → Row) (p : Pr) : Str → Row := dropR (dropR f p.1 p.2) p.2 p.1
def cutsF (f : Str → Row) (ps : List Pr) : Str → Row := ps.foldl cutF f
theorem look_drop (l : Row) (y z : Str) : look (dropRow l y) z = if y = z then none else look l z := by
  unfold dropRow
  induction l with
  | nil => simp [look_nil]
  | cons e l ih =>
    obtain ⟨k, v⟩ := e
    rw [List.filter_cons]
    by_cases h : k = y
    · rw [if_neg (by simp [h]), ih, look_cons]
      by_cases c : y = z
      · simp [c]
      · rw [if_neg c, if_neg c, if_neg (fun q => c (h.symm.trans q))]
    · rw [if_pos (by simp [h]), look_cons, look_cons, ih]
      by_cases c : k = z
      · rw [if_pos c, if_pos c, if_neg (fun q => h (c.trans q.symm))]
      · rw [if_neg c, if_neg c]
theorem drop_nd {l : Row} {y : Str} (h : (l.map (·.1)).Nodup) : ((dropRow l y).map (·.1)).Nodup := by
  unfold dropRow
  exact (List.Sublist.map _ List.filter_sublist).nodup h
theorem encI_drop (l : Row) (y : Str) : dropK (encI l) (Sum.inr y) = encI (dropRow l y) := by
  unfold dropK encI dropRow
  rw [List.filter_map]
  congr 1
  apply List.filter_congr
  intro e _
  simp
theorem dropR_at (f : Str → Row) (x y : Str) : dropR f x y x = dropRow (f x) y := by unfold dropR; rw [if_pos rfl]
theorem dropR_ne {f : Str → Row} {x y z : Str} (h : z ≠ x) : dropR f x y z = f z := by unfold dropR; rw [if_neg h]
def keepL (ps : List Pr) (l : Ln) : Bool := !cutB ps l.1 l.2.1
theorem cut_row {H : Hp} {a b : Addr} {bs : Outer} {f : Str → Row} {x : Str} (n : NetAt H a bs f) (h : addrOf bs x = some b) (y : Str) : NetAt (upd H b (.dK (dropK (encI (f x)) (Sum.inr y)))) a bs (dropR f x y) := by
  refine ⟨?_, fun q hq => ?_, n.ks, n.nd⟩
  · rw [upd_ne (n.ne h).symm]; exact n.out
  · by_cases e : q.2 = b
    · have : q = (x, b) := nd_inj (List.nodup_cons.mp n.nd).2 hq (addrOf_mem h) e
      subst this
      rw [upd_same, dropR_at, encI_drop]
    · rw [upd_ne e, dropR_ne (fun z => e ?_)]
      · exact n.inn q hq
      · have : q = (x, b) := nd_inj n.ks hq (addrOf_mem h) z
        rw [this]
/-! ### pairs in the heap -/
def pairD (p : Pr) : D := .tup [.str p.1, .str p.2]
theorem Reps.pair {K : PySem.W.Frag} {H : Hp} {xs : List V} {ls : List Pr} {i : Nat} {v : V} (h : Reps K H xs (ls.map pairD)) (e : xs[i]? = some v) : ∃ l a, ls[i]? = some l ∧ v = .ref a ∧ SqT K H a [.str l.1, .str l.2] := by
  obtain ⟨d, hd, r⟩ := h.get' e
  rw [List.getElem?_map] at hd
  cases hl : ls[i]? with
  | none => rw [hl] at hd; cases hd
  | some l =>
    rw [hl] at hd
    cases hd
    cases r with
    | tup s rs =>
      refine ⟨l, _, rfl, rfl, ?_⟩
      cases rs with
      | cons r1 rs1 =>
        cases r1
        cases rs1 with
        | cons r2 rs2 =>
          cases r2
          cases rs2
          exact s
end L2
namespace L2
open PySem PySem.Spec PyProof.Rows
end L2
namespace L2
open PySem PySem.Spec PyProof.Rows
theorem NetAt.add2 {H : Hp} {a b : Addr} {bs : Outer} {f : Str → Row} {x : Str} (n : NetAt H a bs f) (hx : x ∉ bs.map (·.1)) (hp : H b = none) (hl : bs.length < sizeLine) :
    DPut (upd H b (.dK (encI (f x)))) a (.str x) (.ref b) (upd (upd H b (.dK (encI (f x)))) a (.dK (encO (bs ++ [(x, b)])))) ∧ NetAt (upd (upd H b (.dK (encI (f x)))) a (.dK (encO (bs ++ [(x, b)])))) a (bs ++ [(x, b)]) f := by
  have ab : a ≠ b := ne_of_none n.out hp
  have hn : ∀ q ∈ bs, q.2 ≠ b := fun q hq => ne_of_none (n.inn q hq) hp
  have p := DPut.k (H := upd H b (.dK (encI (f x)))) (k := Sum.inr x) (v := .ref b) (by rw [upd_ne ab]; exact n.out) (by unfold encO; rw [List.length_map]; exact hl)
  rw [encO_put hx] at p
  refine ⟨p, upd_same, fun q hq => ?_, ?_, ?_⟩
  · rcases List.mem_append.mp hq with c | c
    · have h1 : q.2 ≠ a := fun e => (List.nodup_cons.mp n.nd).1 (e ▸ List.mem_map.mpr ⟨_, c, rfl⟩)
      rw [upd_ne h1, upd_ne (hn q c)]; exact n.inn q c
    · rw [List.mem_singleton.mp c]
      show upd _ _ _ b = some (.dK (encI (f x)))
      rw [upd_ne ab.symm, upd_same]
  · rw [List.map_append]; exact nd_snoc n.ks hx
  · rw [List.map_append, ← List.cons_append]
    refine nd_snoc n.nd (fun h => ?_)
    rcases List.mem_cons.mp h with e | e
    · exact ab e.symm
    · obtain ⟨q, hq, e⟩ := List.mem_map.mp e
      exact hn q hq e
theorem NetAt.updo {H : Hp} {p a : Addr} {cs : Outer} {f : Str → Row} {o : HO} (n : NetAt H p cs f) (h1 : p ≠ a) (h2 : ∀ z ∈ cs, z.2 ≠ a) : NetAt (upd H a o) p cs f :=
  ⟨by rw [upd_ne h1]; exact n.out, fun z hz => by rw [upd_ne (h2 z hz)]; exact n.inn z hz, n.ks, n.nd⟩
def PairsAt (K : PySem.W.Frag) (H : Hp) (p : Addr) (ps : List Pr) : Prop := ∃ xs, H p = some (.lst xs) ∧ Reps K H xs (ps.map pairD)
theorem PairsAt.same {K : PySem.W.Frag} {H H' : Hp} {p : Addr} {ps : List Pr} (h : PairsAt K H p ps) (s : Same H H') : PairsAt K H' p ps := by
  obtain ⟨xs, h1, h2⟩ := h
  exact ⟨xs, s _ _ h1, h2.sm s.sm⟩
end L2
namespace L2
open PySem PySem.Spec PyProof.Rows
end L2
namespace L2
open PySem PySem.Spec PyProof.Rows
theorem NS0.same {H : Hp} {p : Addr} {ks : List Str} {g : Str → Row} {H2 : Hp} (h : NS0 H p ks g H2) : Same H H2 := by obtain ⟨_, s, _⟩ := h; exact s
/-- what comes of lines taken out: a net, or the first that is no line -/
def ResV (H H' : Hp) (ks : List Str) (g : Str → Row) (o : Option Pr) (v : V) : Prop := match o with
  | none => ∃ p, v = .ref p ∧ NS0 H p ks g H'
  | some pr => ∃ p, v = .ref p ∧ H p = none ∧ H' p = some (.tup [.str pr.1, .str pr.2])
/-- two answers alike; the first a tuple, or a net of its own -/
def Twin (K : PySem.W.Frag) (H0 H : Hp) (v u : V) : Prop := ∃ p q d d', v = .ref p ∧ u = .ref q ∧ Rep K H v d ∧ Rep K H u d' ∧ DEq d d' ∧ d.dep ≤ 8 ∧
  (isiB d.ty "dict" = false ∨ (isiB d.ty "dict" = true ∧ ∃ cs g, NetAt H p cs g ∧ New H0 p cs))
theorem Twin.same {K : PySem.W.Frag} {H0 H H' : Hp} {v u : V} (h : Twin K H0 H v u) (s : Same H H') : Twin K H0 H' v u := by
  obtain ⟨p, q, d, d', h1, h2, h3, h4, h5, h6, h7⟩ := h
  refine ⟨p, q, d, d', h1, h2, h3.sm s.sm, h4.sm s.sm, h5, h6, h7.imp id fun ⟨e, cs, g, n, nw⟩ => ⟨e, cs, g, n.same s, nw⟩⟩
end L2

set_option Elab.async false
set_option linter.all false
set_option maxRecDepth 100000
set_option maxHeartbeats 4000000
/-! rules: dict(d), d != {}, enumerate, // by great numbers, a callee that may raise and doesn't (own work) -/
namespace L2
open PySem PySem.Spec PyProof.Rows PySem.SeqAt
section
variable {P : Program} {w : World} {κ : Type} [DecidableEq κ] {kd : KeyKind P w κ} {A : Around} {E : Value → Shared → Prop} {s : Shared}
end
section
variable {X : Cx}
theorem call_dictOf : CallR X (.type "dict") (fun xs H Q => ∃ a kvs, xs = [.ref a] ∧ Rd H a (.dK kvs) ∧ ∀ p, H p = none → Q (.ref p) (upd H p (.dK kvs))) := by
  rintro pins s σ H xs us Q I r ⟨a, kvs, rfl, hr, q⟩
  obtain ⟨u, rfl, ru⟩ := vals1 r
  cases ru
  exact d_copyOf I hr fun p s' hp I' => ⟨.ref p, _, I', rfl, q p hp⟩
variable {pins : List (Addr × Obj)} {σ : St} {H : Hp} {s : Shared} {h' : Heap}
end
/-! ### enumerate -/
def Ite (K : PySem.W.Frag) (a : Addr) (xs : List V) : It :=
  ⟨fun i H => SqL K H a xs ∧ i < xs.length, fun i H v H' => ∃ p x, H p = none ∧ v = .ref p ∧ xs[i]? = some x ∧ H' = upd H p (.tup [.int i, x]), fun i H => SqL K H a xs ∧ i = xs.length⟩
def iEnum (K : PySem.W.Frag) (ta : TA) : TI := fun σ H R => ta σ H fun vs H1 => ∃ a xs, vs = [.ref a] ∧ H1 a = some (.lst xs) ∧ R (Ite K a xs) H1
section
variable {X : Cx}
end
end L2
namespace L2
open PySem PySem.Spec PyProof.Rows
section
variable {X : Cx} {o e f : Expr} {apos cpos : Pos} {td ty tx : TE}
theorem dropK_none {κ : Type} [DecidableEq κ] {kvs : List (κ × V)} {k : κ} (h : valV kvs k = none) : dropK kvs k = kvs := by
  unfold dropK
  rw [List.filter_eq_self]
  intro z hz
  simp only [ne_eq, decide_eq_true_eq]
  intro q
  exact valV_not h (List.mem_map.mpr ⟨z, hz, q⟩)
theorem upd_self {H : Hp} {a : Addr} {o : HO} (h : H a = some o) : upd H a o = H := by
  funext b
  unfold upd
  split
  · rename_i c; rw [c, h]
  · rfl
/-- d.pop(k, x), whatever comes back -/
def tDPopU (td ty tx : TE) : TE := fun σ H Q => td σ H fun x H1 => ∃ a, x = .ref a ∧ IsD H1 a ∧ ty σ H1 fun y H2 => tx σ H2 fun _ H3 => ∃ kvs k, H3 a = some (.dK kvs) ∧ y = kV k ∧ ∀ v, Q v (upd H3 a (.dK (dropK kvs k)))
theorem pe_dpopU (ho : PE X o td) (he : PE X e ty) (hf : PE X f tx) (m : M2 X o "pop" apos e f cpos) : PE X (.Call (.Attribute o "pop" apos) [e, f] [] cpos) (tDPopU td ty tx) := by
  intro pins s σ H Q I h
  refine wpAny_Call_method m.base m.few m.line PySem.F.plainAttrs_dict PySem.F.slot_dict_pop PySem.F.type_dict_pop (thn (ho pins s σ H _ I h) fun u s1 ⟨x, H1, I1, rx, a, ex, d, q1⟩ => ?_)
  subst ex
  obtain rfl : u = Value.ref a := rx
  obtain ⟨t1, t2, _⟩ := isD_at I1 d
  refine ⟨t1, t2, ?_⟩
  rw [m.trees]
  refine Calls.callWith_builtin rfl (Calls.evalArgs_plain (Calls.spliced_cons (thn (he pins s1 σ H1 _ I1 q1) fun iv s2 ⟨y, H2, I2, ry, q2⟩ =>
    Calls.spliced_cons (thn (hf pins s2 σ H2 _ I2 q2) fun fv s3 ⟨z, H3, I3, rz, kvs, k, ea, ey, q3⟩ => Calls.spliced_nil ?_))))
  subst ey
  cases l : valV kvs k with
  | some v => exact d_pop I3 ea ry l (.inr ⟨fv, rfl⟩) fun w' s4 I4 rw' => ⟨v, _, I4, rw', q3 v⟩
  | none =>
    have q4 := q3 z
    rw [dropK_none l, upd_self ea] at q4
    exact d_popD I3 ea ry l fun s4 I4 => ⟨z, H3, I4, rz, q4⟩
end
end L2
namespace L2
open PySem PySem.Spec PyProof.Rows
end L2
namespace L2
open PySem PySem.Spec PyProof.Rows
theorem ix_listK {X : Cx} {K : PySem.W.Frag} (hK : X.K = K) : IxR X (rIxL K) := by subst hK; exact ix_list
end L2
namespace L2
open PySem PySem.Spec PyProof.Rows
theorem seqIf {c : TT} {a b u : TS} {D : Ends} {σ : St} {H : Hp} (R : St → Hp → Prop) (hR : ∀ σ H, R σ H → u D σ H) (h1 : (∀ σ H, R σ H → u D σ H) → tIfS c a b { D with nx := u D } σ H) : tSeq (tIfS c a b) u D σ H := h1 hR
end L2

namespace L2
open PySem PySem.Spec PyProof.Rows
end L2
namespace L2
open PySem PySem.Spec PyProof.Rows
end L2

set_option Elab.async false
set_option linter.all false
set_option maxRecDepth 100000
set_option maxHeartbeats 4000000
/-! rules: zip, list.insert, dict.setdefault, min of a list (own work) -/
namespace L2
open PySem PySem.Spec PyProof.Rows PySem.SeqAt
section
variable {X : Cx} {pins : List (Addr × Obj)} {σ : St} {H : Hp} {s : Shared} {h' : Heap}
theorem Inv.turnedL {t' : Nat} {fp : List Addr} (I : Inv X pins σ H s) (k : ∀ b o, b ∉ fp → s.heap.get? b = some o → h'.get? b = some o) (hf : ∀ b ∈ fp, FpOk X pins H b) : Inv X pins σ H { s with heap := h', toks := t' } := by
  have nf : ∀ b u, H b = some u → b ∉ fp := fun b u q z => by rw [(hf b z).1] at q; cases q
  have nl : X.env.locals ∉ fp := fun z => (hf _ z).2.1 rfl
  refine I.step (g' := s.gens) (d' := s.drawn) (ch := fp) (fun b hb => ?_) (fun b o _ _ hc q _ => k b o hc q) (fun b o _ _ hc q _ => ⟨o.slots, k b o hc q⟩) (fun _ _ _ _ n => n)
    (fun b o hc q => ⟨o, k b o hc q⟩) (fun _ _ q => q) (fun _ _ _ q => q) (fun b ps q => ⟨#[], by rw [q]; simp⟩) (fun m hm => ?_) (fun b u q => ?_) I.bare
  · obtain ⟨_, a1, _, a3, a4, a5⟩ := hf b hb
    exact ⟨a3, a1, a4, a5⟩
  · obtain ⟨o, es, ep, ho, r⟩ := hm
    exact ⟨o, es, ep, k _ o nl ho, r⟩
  · refine (I.hok b u q).stay (fun c v hc r => k c v ?_ r) (fun _ q => q) fun _ _ q => q
    rcases hc with z | z
    · rw [z]; exact nf b u q
    · exact nf c _ z
end
/-! ### zip of two lists -/
def Itz (K : PySem.W.Frag) (a b : Addr) (xs ys : List V) : It :=
  ⟨fun i H => SqL K H a xs ∧ SqL K H b ys ∧ i < min xs.length ys.length, fun i H v H' => ∃ p x y, H p = none ∧ v = .ref p ∧ xs[i]? = some x ∧ ys[i]? = some y ∧ H' = upd H p (.tup [x, y]), fun i H => SqL K H a xs ∧ SqL K H b ys ∧ i = min xs.length ys.length⟩
theorem turn_zip {P : Program} {w : World} {K : PySem.W.Frag} {elts : List Expr} {x1} {tpos : Pos} (a b z TI TO i1 i2 : Addr) (xs ys : List V) (D : ZipApart z TI TO i1 i2 a b) :
    Turn P w K (.Tuple elts x1 tpos) (Itz K a b xs ys) [z, TI, TO, i1, i2] z (fun i h => IsZip h z TI TO .none ∧ IsPair h TI (.ref i1) (.ref i2) ∧ (∃ u v, IsPair h TO u v) ∧ h.IsListIter i1 a i ∧ h.IsListIter i2 b i) where
  mem := by simp
  obj := fun i h st c hc => by
    obtain ⟨hz, hT, ⟨u, v, hO⟩, ⟨o1, e1, c1, d1⟩, ⟨o2, e2, c2, d2⟩⟩ := st
    simp only [List.mem_cons, List.not_mem_nil, or_false] at hc
    rcases hc with rfl | rfl | rfl | rfl | rfl
    · exact ⟨_, hz, fun v z => by cases z⟩
    · exact ⟨_, hT, fun v z => by cases z⟩
    · exact ⟨_, hO, fun v z => by cases z⟩
    · exact ⟨o1, e1, fun v z => by rw [d1] at z; cases z⟩
    · exact ⟨o2, e2, fun v z => by rw [d2] at z; cases z⟩
  keep := fun i h h' st k => by
    obtain ⟨hz, hT, ⟨u, v, hO⟩, h1, h2⟩ := st
    exact ⟨k z (by simp) _ hz, k TI (by simp) _ hT, ⟨u, v, k TO (by simp) _ hO⟩, h1.at fun o q => k i1 (by simp) o q, h2.at fun o q => k i2 (by simp) o q⟩
  item := by
    intro X hP hw hK hc i pins s σ H E I hf st hg
    subst hP hw hK
    obtain ⟨hq1, hq2, hi⟩ := hg
    obtain ⟨hz, hT, ⟨u0, v0, hO⟩, h1, h2⟩ := st
    obtain ⟨its, rv, p, _⟩ := I.list hq1
    obtain ⟨its2, rv2, p2, _⟩ := I.list hq2
    obtain ⟨x, hx⟩ : ∃ x, xs[i]? = some x := ⟨_, List.getElem?_eq_getElem (by omega)⟩
    obtain ⟨y, hy⟩ : ∃ y, ys[i]? = some y := ⟨_, List.getElem?_eq_getElem (by omega)⟩
    obtain ⟨u, hu, ru⟩ := rv.get hx
    obtain ⟨v, hv, rv'⟩ := rv2.get hy
    have lts : ∀ c ∈ [z, TI, TO, i1, i2], c < s.heap.objs.size := fun c hc => by
      simp only [List.mem_cons, List.not_mem_nil, or_false] at hc
      rcases hc with rfl | rfl | rfl | rfl | rfl
      · exact Heap.lt_size hz
      · exact Heap.lt_size hT
      · exact Heap.lt_size hO
      · obtain ⟨o, e, _⟩ := h1; exact Heap.lt_size e
      · obtain ⟨o, e, _⟩ := h2; exact Heap.lt_size e
    have hN : H s.heap.objs.size = none := I.hok.fresh (Nat.le_refl _)
    refine wpAny_pyNext_zip_item D hz hT hO h1 h2 p.isList p2.isList (x := u) (y := v) (by simpa using hu) (by simpa using hv) fun h₁ hz₁ hO₁ h1₁ h2₁ hp₁ hsz₁ hk₁ => ⟨_, rfl, ?_⟩
    refine wpAny_letOwnedTupleGo_zip hz₁ fun h₂ hz₂ hs₂ => ?_
    replace hs₂ : Heap.SameBut z h₁ h₂ := hs₂
    have I1 : Inv X pins σ (upd H s.heap.objs.size (.tup [x, y])) { s with heap := s.heap.push { cls := .type "tuple", data := .seq #[u, v] }, toks := s.toks } :=
      I.laid (t' := s.toks) (fun b o q => Heap.get?_push_of_some _ q) (Nat.le_refl _) ⟨by show 2 ≤ sizeLine; decide, [u, v], .cons ru (.cons rv' .nil), ⟨_, Heap.get?_push_size _ rfl, rfl, _, rfl⟩⟩
    have nf : ∀ c ∈ [z, TI, TO, i1, i2], FpOk X pins (upd H s.heap.objs.size (.tup [x, y])) c := fun c hc => ⟨by rw [upd_ne (Nat.ne_of_lt (lts c hc))]; exact (hf c hc).1, (hf c hc).2⟩
    have I2 : Inv X pins σ (upd H s.heap.objs.size (.tup [x, y])) { s with heap := h₂, toks := s.toks } := I1.turnedL (t' := s.toks) (fun b o hb q => by
      simp only [List.mem_cons, List.not_mem_nil, or_false, not_or] at hb
      rw [hs₂.2 b hb.1]
      rcases Heap.get?_push_cases q with ⟨z1, z2⟩ | z
      · rw [z1, z2]; exact hp₁
      · exact hk₁ b o hb.1 hb.2.2.1 hb.2.2.2.1 hb.2.2.2.2 z) nf
    have hT₁ := hk₁ TI _ D.TIz D.TITO D.TIi1 D.TIi2 hT
    refine ⟨.ref s.heap.objs.size, _, I2, rfl, ⟨_, x, y, hN, rfl, hx, hy, rfl⟩, ⟨hz₂, (hs₂.2 _ D.TIz).trans hT₁, ⟨u, v, (hs₂.2 _ D.TOz).trans hO₁⟩, h1₁.extBut hs₂.extBut D.i1z, h2₁.extBut hs₂.extBut D.i2z⟩, fun c hc => (nf c hc).1⟩
  done := by
    intro X hP hw hK hc i pins s σ H E I hf st hg
    subst hP hw hK
    obtain ⟨hq1, hq2, hi⟩ := hg
    obtain ⟨hz, hT, ⟨u0, v0, hO⟩, h1, h2⟩ := st
    obtain ⟨its, rv, p, _⟩ := I.list hq1
    obtain ⟨its2, rv2, p2, _⟩ := I.list hq2
    have l1 := rv.length
    have l2 := rv2.length
    refine wpAny_pyNext_zip_end (I.ok.hd hc) D hz hT hO h1 h2 p.isList p2.isList ?_ fun h' hk => ⟨rfl, I.turnedL (t' := s.toks) (fun c o hb q => ?_) hf⟩
    · rcases Nat.le_total xs.length ys.length with q | q
      · exact .inl (by simp; omega)
      · exact .inr (by simp; omega)
    · simp only [List.mem_cons, List.not_mem_nil, or_false, not_or] at hb
      exact hk c o hb.1 hb.2.2.1 hb.2.2.2.1 hb.2.2.2.2 q
  self := fun _ _ _ _ _ st h => wpAny_pyIter_zip st.1 h
theorem boot_ty_zip : bootBuiltins "zip" = some (.type "zip") := by decide +kernel
def iZip (K : PySem.W.Frag) (ta : TA) : TI := fun σ H R => ta σ H fun vs H1 => ∃ a b xs ys, vs = [.ref a, .ref b] ∧ SqL K H1 a xs ∧ SqL K H1 b ys ∧ R (Itz K a b xs ys) H1
theorem zip_apart {n l1 l2 : Nat} (b1 : l1 < n) (b2 : l2 < n) : ZipApart (n + 4) (n + 2) (n + 3) n (n + 1) l1 l2 := by
  constructor <;> (show ¬ (@Eq Nat _ _)) <;> omega
section
variable {X : Cx}
theorem pi_zip {a b : Expr} {ta : TA} {p pos : Pos} {elts : List Expr} {x1} {tpos : Pos} (hg : Gl X "zip") (hm : X.mg "zip" = none) (ha : PA X [a, b] ta) (hs : starEach [a, b] X.env = (false, eval a X.env) :: starEach [b] X.env := by rfl) (hs2 : (backTo pos (starEach [b] X.env)).any (·.1) = false := by rfl) :
    PI X (.Tuple elts x1 tpos) (.Call (.Name "zip" p) [a, b] [] pos) (iZip X.K ta) := by
  intro pins s σ H R I h
  refine Call_ (ld_blt I hg hm boot_ty_zip (PyProof.Rows.callWith_type1 (thn (ha pos pins s σ H _ I h) fun us s1 ⟨vs, H1, I1, r1, q1⟩ => ?_) hs hs2))
  obtain ⟨l1, l2, xs, ys, e, hq1, hq2, q⟩ := q1
  subst e
  cases r1 with
  | cons ru1 r2 =>
  cases r2 with
  | cons ru2 r3 =>
  cases r3
  cases ru1
  cases ru2
  obtain ⟨its, rv, pl, _⟩ := I1.list hq1
  obtain ⟨its2, rv2, pl2, _⟩ := I1.list hq2
  have b1 : l1 < s1.heap.objs.size := by obtain ⟨o, ho, _⟩ := pl.isList; exact Heap.lt_size ho
  have b2 : l2 < s1.heap.objs.size := by obtain ⟨o, ho, _⟩ := pl2.isList; exact Heap.lt_size ho
  refine call_zip_2 pl.isList pl2.isList fun h' hz hT hO h1 h2 hsz hk => ?_
  refine wpAny_pyIter_zip (s := { s1 with heap := h' }) hz ?_
  have I2 : Inv X pins σ H1 { s1 with heap := h', toks := s1.toks } := I1.kept (t' := s1.toks) fun b o e => hk b o e
  generalize hn : s1.heap.objs.size = n at *
  have D : ZipApart (n + 4) (n + 2) (n + 3) n (n + 1) l1 l2 := zip_apart b1 b2
  refine ⟨n + 4, [n + 4, n + 2, n + 3, n, n + 1], _, _, H1, rfl, I2, turn_zip l1 l2 _ _ _ _ _ xs ys D, ⟨hz, hT, ⟨_, _, hO⟩, h1, h2⟩, fun c hc => ?_, q⟩
  have hc' : n ≤ c := by
    simp only [List.mem_cons, List.not_mem_nil, or_false] at hc
    rcases hc with rfl | rfl | rfl | rfl | rfl
    · exact Nat.le_add_right _ _
    · exact Nat.le_add_right _ _
    · exact Nat.le_add_right _ _
    · exact Nat.le_refl _
    · exact Nat.le_add_right _ _
  exact I1.fpOk (by rw [hn]; exact hc') (I1.hok.fresh (by rw [hn]; exact hc'))
end
/-- over zip of two lists that the body leaves as they are -/
theorem for_zip {K : PySem.W.Frag} {a b : Addr} {xs ys : List V} {g : TG} {tb : TS} {D : Ends} {σ : St} {H : Hp} (Pv : Nat → St → Hp → Prop) (h0 : Pv 0 σ H) (hl : ∀ i σ H, i ≤ min xs.length ys.length → Pv i σ H → SqL K H a xs ∧ SqL K H b ys)
    (hs : ∀ i x y p σ H, xs[i]? = some x → ys[i]? = some y → Pv i σ H → H p = none → g (.ref p) σ (upd H p (.tup [x, y])) fun σ2 H2 => tb { D with nx := Pv (i + 1), ct := Pv (i + 1), bk := D.nx } σ2 H2) (hd : ∀ σ H, Pv (min xs.length ys.length) σ H → D.nx σ H) :
    ∃ W : Nat → Nat → St → Hp → Prop, (∃ m, W 0 m σ H) ∧ ∀ i m σ H, W i m σ H →
      ((Itz K a b xs ys).stop i H ∧ D.nx σ H) ∨ ((Itz K a b xs ys).go i H ∧ ∃ N : St → Hp → Prop, (∀ σ' H', N σ' H' → ∃ m', m' < m ∧ W (i + 1) m' σ' H') ∧ ∀ x H', (Itz K a b xs ys).yld i H x H' → g x σ H' fun σ2 H2 => tb { D with nx := N, ct := N, bk := D.nx } σ2 H2) := by
  refine ⟨fun i m σ H => m = min xs.length ys.length - i ∧ i ≤ min xs.length ys.length ∧ Pv i σ H, ⟨min xs.length ys.length, by simp, Nat.zero_le _, h0⟩, ?_⟩
  rintro i m σ H ⟨rfl, hi, p⟩
  have q := hl i σ H hi p
  by_cases hlt : i < min xs.length ys.length
  · refine .inr ⟨⟨q.1, q.2, hlt⟩, Pv (i + 1), fun σ' H' p' => ⟨min xs.length ys.length - (i + 1), by omega, rfl, hlt, p'⟩, fun v H' y => ?_⟩
    obtain ⟨pp, x, y, h1, rfl, h2, h3, rfl⟩ := y
    exact hs i x y pp σ H h2 h3 p h1
  · have : i = min xs.length ys.length := by omega
    subst this
    exact .inl ⟨⟨q.1, q.2, rfl⟩, hd σ H p⟩
/-! ### list.insert(0, x) -/
section
variable {X : Cx}
def rIns0 : V → List V → Hp → VK → Prop := fun x vs H Q => ∃ l xs y, x = .ref l ∧ vs = [.int 0, y] ∧ H l = some (.lst xs) ∧ xs.length < sizeLine ∧ Q .non (upd H l (.lst (y :: xs)))
theorem mt_insert0 : MtM X "list.insert" rIns0 := by
  intro pins s σ H x vs v us Q I rx rv h
  obtain ⟨l, xs, y, rfl, rfl, hH, hz, q⟩ := h
  cases rx
  cases rv with
  | cons r0 rv1 =>
  cases rv1 with
  | cons r1 rv2 =>
  cases rv2
  obtain ⟨t, rfl⟩ := r0
  obtain ⟨z, its, n, r, hl, e⟩ := I.lstM hH
  refine call_meets F.slot_list_insert ⟨_, e, rfl⟩ F.entry_list_insert (F.args_list_insert_3 _ _ _) (PySem.AutoListH.list_insert_list_int_val_1 l its.toArray n 0 t _ (by decide) (by rw [List.size_toArray]; omega)) ⟨e, ?_⟩
  refine ⟨.non, _, I.lset (its' := _ :: its) hH e (by simp) (.cons r1 r) ?_, rfl, q⟩
  rw [List.length_cons]
  omega
/-! ### min of a list of ints -/
theorem ints_items : ∀ {ns : List Int} {us : List Value}, Vals (ns.map V.int) us → ∃ xs : List (Int × Tok), us = xs.map (fun p => Value.int p.1 p.2) ∧ xs.map (·.1) = ns
  | [], _, r => by cases r; exact ⟨[], rfl, rfl⟩
  | n :: ns, _, r => by
    cases r with
    | cons r1 r2 =>
      obtain ⟨xs, h1, h2⟩ := ints_items r2
      obtain ⟨t, rfl⟩ := r1
      exact ⟨(n, t) :: xs, by rw [h1]; rfl, by rw [← h2]; rfl⟩
theorem call_minL (hc : X.calm = true) : CallR X (.builtin "min") (fun vs H Q => ∃ a ns, vs = [.ref a] ∧ SqL X.K H a (ns.map V.int) ∧ ns ≠ [] ∧ ∀ m, m ∈ ns → (∀ n ∈ ns, m ≤ n) → Q (.int m) H) := by
  rintro pins s σ H vs us Q I r ⟨a, ns, rfl, hr, hne, q⟩
  obtain ⟨u, rfl, ru⟩ := vals1 r
  cases ru
  obtain ⟨its, rv, pl, hz⟩ := I.list hr
  obtain ⟨xs, rfl, hxs⟩ := ints_items rv
  have hit : (xs.map (fun p => Value.int p.1 p.2)).toArray = intItems xs.toArray := by simp [intItems]
  have hl := pl.isList
  rw [hit] at hl
  have hsz : 0 < xs.toArray.size := by
    rw [List.size_toArray]
    cases xs with
    | nil => exact absurd hxs.symm hne
    | cons _ _ => simp
  have num : ∀ i, i < xs.length → numAt xs.toArray i ∈ ns ∧ ns[i]? = some (numAt xs.toArray i) := fun i hi => by
    have e : ns[i]? = some (numAt xs.toArray i) := by
      rw [← hxs, List.getElem?_map]
      unfold numAt
      simp [hi]
    exact ⟨List.mem_of_getElem? e, e⟩
  refine min_intList (I.ok.hd hc) hl hsz fun v h' tk hv hk => ?_
  obtain ⟨t, rfl⟩ := intItems_at hv
  obtain ⟨b1, b2⟩ := argBest_lt (numAt xs.toArray) (xs.toArray.size - 1)
  have hx : xs.toArray.size = xs.length := List.size_toArray ..
  refine ⟨.int _, H, I.kept (t' := tk) hk, ⟨t, rfl⟩, q _ (num _ (by omega)).1 fun n hn => ?_⟩
  obtain ⟨j, hj⟩ := List.getElem?_of_mem hn
  have hjl : j < xs.length := by
    have := (List.getElem?_eq_some_iff.mp hj).1
    rw [← hxs, List.length_map] at this; exact this
  have e := (num j hjl).2
  rw [hj] at e
  rw [Option.some.inj e]
  exact b2 j (by omega)
/-! ### d.copy() -/
end
end L2
namespace L2
open PySem PySem.Spec PyProof.Rows
/-! ### d.setdefault(k, x) -/
def defK {κ : Type} [DecidableEq κ] (kvs : List (κ × V)) (k : κ) (z : V) : List (κ × V) := if (valV kvs k).isSome = true then kvs else putK kvs k z
def tDSetD (td ty tx : TE) : TE := fun σ H Q => td σ H fun x H1 => ∃ a, x = .ref a ∧ IsD H1 a ∧ ty σ H1 fun y H2 => tx σ H2 fun z H3 => ∃ kvs k, H3 a = some (.dK kvs) ∧ y = kV k ∧ kvs.length < sizeLine ∧ ∀ v, Q v (upd H3 a (.dK (defK kvs k z)))
section
variable {X : Cx} {o e f : Expr} {apos cpos : Pos} {td ty tx : TE}
theorem pe_dsetd (ho : PE X o td) (he : PE X e ty) (hf : PE X f tx) (m : M2 X o "setdefault" apos e f cpos) : PE X (.Call (.Attribute o "setdefault" apos) [e, f] [] cpos) (tDSetD td ty tx) := by
  intro pins s σ H Q I h
  refine wpAny_Call_method m.base m.few m.line PySem.F.plainAttrs_dict PySem.F.slot_dict_setdefault PySem.F.type_dict_setdefault (thn (ho pins s σ H _ I h) fun u s1 ⟨x, H1, I1, rx, a, ex, d, q1⟩ => ?_)
  subst ex
  obtain rfl : u = Value.ref a := rx
  obtain ⟨t1, t2, _⟩ := isD_at I1 d
  refine ⟨t1, t2, ?_⟩
  rw [m.trees]
  refine Calls.callWith_builtin rfl (Calls.evalArgs_plain (Calls.spliced_cons (thn (he pins s1 σ H1 _ I1 q1) fun iv s2 ⟨y, H2, I2, ry, q2⟩ =>
    Calls.spliced_cons (thn (hf pins s2 σ H2 _ I2 q2) fun fv s3 ⟨z, H3, I3, rz, kvs, k, ea, ey, hz, q3⟩ => Calls.spliced_nil ?_))))
  subst ey
  obtain ⟨zz, hd, vs, rel, dd⟩ := dk_of I3.hok ea
  refine call_meetsIn PySem.F.slot_dict_setdefault dd.typeIs PySem.F.entry_dict_setdefault (PySem.F.args_dict_setdefault_3 _ _ _) (PySem.kt_meets_setdefault (mixKind X.prog X.w) a (kV_is ry) hd fv)
    ⟨vs, dd, by rw [← rel.length]; exact zz, fun v hv => ?_, fun hn h' dd' hs => ?_⟩
  · have hv' : (valV kvs k).isSome = true := by
      have := (rel.val k).isSome_eq
      rw [this, hv]; rfl
    obtain ⟨w', hw⟩ := Option.isSome_iff_exists.mp hv'
    obtain ⟨w2, hw2, rw2⟩ := RelO.some_of (v := w') (o := valueAt vs k) (by rw [← hw]; exact rel.val k)
    rw [hv] at hw2
    cases hw2
    have q4 := q3 w'
    unfold defK at q4
    rw [if_pos hv', upd_self ea] at q4
    exact ⟨w', H3, I3.tok _, rw2, q4⟩
  · have hn' : valV kvs k = none := by
      cases hw : valV kvs k with
      | none => rfl
      | some w' =>
        have := (rel.val k).isSome_eq
        rw [hw, hn] at this; cases this
    have q4 := q3 z
    unfold defK at q4
    rw [if_neg (by rw [hn']; simp)] at q4
    have he : ∃ q, h'.get? a = some q := let ⟨q, _, _, hq, _⟩ := dd'; ⟨q, hq⟩
    have hl : (putK kvs k z).length ≤ sizeLine := by have := length_putK kvs k z; omega
    exact ⟨z, _, d_write I3 (by rw [ea]; exact True.intro) hs he (dk_new hl hd (rel.put k rz) dd'), rz, q4⟩
end
end L2

set_option Elab.async false
set_option linter.all false
set_option maxRecDepth 100000
set_option maxHeartbeats 4000000
/-! what goes over arcs at most, and the least side (own work) -/
namespace L2
open PySem PySem.Spec PyProof.Rows
/-! ### sums -/
def sumL {α : Type} (l : List α) (g : α → Int) : Int := (l.map g).sum
section
variable {α β : Type}
theorem sumL_nil (g : α → Int) : sumL [] g = 0 := rfl
theorem sumL_cons (a : α) (l : List α) (g : α → Int) : sumL (a :: l) g = g a + sumL l g := by simp [sumL]
theorem sumL_congr {l : List α} {g h : α → Int} (e : ∀ a ∈ l, g a = h a) : sumL l g = sumL l h := by
  induction l with
  | nil => rfl
  | cons a l ih => rw [sumL_cons, sumL_cons, e a (by simp), ih fun b hb => e b (List.mem_cons_of_mem _ hb)]
theorem sumL_add (l : List α) (g h : α → Int) : sumL l (fun a => g a + h a) = sumL l g + sumL l h := by
  induction l with
  | nil => rfl
  | cons a l ih => rw [sumL_cons, sumL_cons, sumL_cons, ih]; omega
theorem sumL_sub (l : List α) (g h : α → Int) : sumL l (fun a => g a - h a) = sumL l g - sumL l h := by
  induction l with
  | nil => rfl
  | cons a l ih => rw [sumL_cons, sumL_cons, sumL_cons, ih]; omega
theorem sumL_neg (l : List α) (g : α → Int) : sumL l (fun a => - g a) = - sumL l g := by
  induction l with
  | nil => rfl
  | cons a l ih => rw [sumL_cons, sumL_cons, ih]; omega
theorem sumL_zero {l : List α} {g : α → Int} (e : ∀ a ∈ l, g a = 0) : sumL l g = 0 := by
  induction l with
  | nil => rfl
  | cons a l ih => rw [sumL_cons, e a (by simp), ih fun b hb => e b (List.mem_cons_of_mem _ hb)]; rfl
theorem sumL_le {l : List α} {g h : α → Int} (e : ∀ a ∈ l, g a ≤ h a) : sumL l g ≤ sumL l h := by
  induction l with
  | nil => exact Int.le_refl _
  | cons a l ih =>
    rw [sumL_cons, sumL_cons]
    have := e a (by simp)
    have := ih fun b hb => e b (List.mem_cons_of_mem _ hb)
    omega
theorem sumL_nonneg {l : List α} {g : α → Int} (e : ∀ a ∈ l, 0 ≤ g a) : 0 ≤ sumL l g := by
  have := sumL_le (g := fun _ => 0) (h := g) e
  rwa [sumL_zero (fun _ _ => rfl)] at this
theorem sumL_le_zero {l : List α} {g : α → Int} (e : ∀ a ∈ l, 0 ≤ g a) (z : sumL l g ≤ 0) : ∀ a ∈ l, g a = 0 := by
  induction l with
  | nil => intro a h; simp at h
  | cons b l ih =>
    rw [sumL_cons] at z
    have h1 := e b (by simp)
    have h2 := sumL_nonneg fun a ha => e a (List.mem_cons_of_mem _ ha)
    intro a ha
    rcases List.mem_cons.mp ha with q | q
    · subst q; omega
    · exact ih (fun a ha => e a (List.mem_cons_of_mem _ ha)) (by omega) a q
theorem sumL_swap (l : List α) (m : List β) (g : α → β → Int) : sumL l (fun a => sumL m (g a)) = sumL m (fun b => sumL l (fun a => g a b)) := by
  induction l with
  | nil => rw [sumL_nil]; exact (sumL_zero fun _ _ => rfl).symm
  | cons a l ih =>
    rw [sumL_cons, ih]
    rw [← sumL_add]
    exact sumL_congr fun b _ => (sumL_cons a l fun a => g a b).symm
/-- one place alone -/
theorem sumL_one [DecidableEq α] {l : List α} (nd : l.Nodup) {x : α} (hx : x ∈ l) (m : Int) : sumL l (fun a => if a = x then m else 0) = m := by
  induction l with
  | nil => simp at hx
  | cons b l ih =>
    rw [sumL_cons]
    obtain ⟨h1, h2⟩ := List.nodup_cons.mp nd
    rcases List.mem_cons.mp hx with q | q
    · subst q
      rw [if_pos rfl, sumL_zero (fun a ha => by rw [if_neg]; intro e; exact h1 (e ▸ ha))]; omega
    · have : ¬ b = x := fun e => h1 (e ▸ q)
      rw [if_neg this, ih h2 q]; omega
end
/-! ### what leaves a side -/
abbrev Fl := Str → Str → Int
def leave (ks : List Str) (c : Fl) (S : Str → Bool) : Int := sumL ks fun x => sumL ks fun y => if S x = true ∧ S y = false then c x y else 0
def outF (ks : List Str) (φ : Fl) (x : Str) : Int := sumL ks (φ x)
/-- what was sent, and the room that is left -/
structure Flow (ks : List Str) (c : Fl) (one other : Str → Bool) (r : Fl) (amount : Int) : Prop where
  nn : ∀ x ∈ ks, ∀ y ∈ ks, 0 ≤ r x y
  anti : ∀ x ∈ ks, ∀ y ∈ ks, c x y - r x y = - (c y x - r y x)
  cons : ∀ x ∈ ks, one x = false → other x = false → outF ks (fun x y => c x y - r x y) x = 0
  amt : amount = sumL ks fun x => if one x = true then outF ks (fun x y => c x y - r x y) x else 0
/-- a side: all beginnings, no goal -/
structure Side (ks : List Str) (one other S : Str → Bool) : Prop where
  has : ∀ x ∈ ks, one x = true → S x = true
  lacks : ∀ x ∈ ks, other x = true → S x = false
section
variable {ks : List Str} {c r : Fl} {one other S : Str → Bool} {amount : Int}
theorem anti_zero {φ : Fl} (h : ∀ x ∈ ks, ∀ y ∈ ks, φ x y = - φ y x) : sumL ks (fun x => sumL ks fun y => if S x = true ∧ S y = true then φ x y else 0) = 0 := by
  have e : sumL ks (fun x => sumL ks fun y => if S x = true ∧ S y = true then φ x y else 0) = - sumL ks (fun x => sumL ks fun y => if S x = true ∧ S y = true then φ x y else 0) := by
    refine (sumL_swap ..).trans ?_
    rw [← sumL_neg]
    refine sumL_congr fun y hy => ?_
    rw [← sumL_neg]
    refine sumL_congr fun x hx => ?_
    by_cases q : S x = true ∧ S y = true
    · rw [if_pos q, if_pos ⟨q.2, q.1⟩]; exact h x hx y hy
    · rw [if_neg q, if_neg fun z => q ⟨z.2, z.1⟩]; rfl
  omega
theorem Flow.cut (f : Flow ks c one other r amount) (s : Side ks one other S) : amount = leave ks (fun x y => c x y - r x y) S := by
  have h1 : amount = sumL ks fun x => if S x = true then outF ks (fun x y => c x y - r x y) x else 0 := by
    rw [f.amt]
    refine sumL_congr fun x hx => ?_
    cases ho : one x with
    | true => rw [if_pos rfl, if_pos (s.has x hx ho)]
    | false =>
      rw [if_neg (by simp)]
      cases hS : S x with
      | false => rw [if_neg (by simp)]
      | true =>
        rw [if_pos rfl]
        cases ht : other x with
        | false => exact (f.cons x hx ho ht).symm
        | true => rw [s.lacks x hx ht] at hS; cases hS
  have h2 := anti_zero (S := S) (φ := fun x y => c x y - r x y) f.anti
  rw [h1]
  unfold leave
  dsimp only
  have : ∀ x ∈ ks, (if S x = true then outF ks (fun x y => c x y - r x y) x else 0) = sumL ks (fun y => if S x = true ∧ S y = true then c x y - r x y else 0) + sumL ks (fun y => if S x = true ∧ S y = false then c x y - r x y else 0) := fun x _ => by
    rw [← sumL_add]
    cases hS : S x with
    | false => rw [if_neg (by simp)]; exact (sumL_zero fun y _ => by simp).symm
    | true =>
      rw [if_pos rfl]
      unfold outF
      refine sumL_congr fun y _ => ?_
      cases hy : S y <;> simp
  rw [sumL_congr this, sumL_add, h2]
  omega
theorem Flow.weak (f : Flow ks c one other r amount) (s : Side ks one other S) : amount ≤ leave ks c S := by
  rw [f.cut s]
  refine sumL_le fun x hx => sumL_le fun y hy => ?_
  have := f.nn x hx y hy
  dsimp only
  split <;> omega
/-- what just this amount leaves has no room outward -/
theorem Flow.tight (f : Flow ks c one other r amount) (s : Side ks one other S) (e : leave ks c S = amount) : ∀ x ∈ ks, ∀ y ∈ ks, S x = true → S y = false → r x y = 0 := by
  have h := f.cut s
  have hz : sumL ks (fun x => sumL ks fun y => if S x = true ∧ S y = false then r x y else 0) = 0 := by
    have e2 : leave ks c S - leave ks (fun x y => c x y - r x y) S = sumL ks (fun x => sumL ks fun y => if S x = true ∧ S y = false then r x y else 0) := by
      unfold leave
      rw [← sumL_sub]
      refine sumL_congr fun x _ => ?_
      rw [← sumL_sub]
      refine sumL_congr fun y _ => ?_
      dsimp only
      split <;> omega
    omega
  have nn : ∀ x ∈ ks, ∀ y ∈ ks, 0 ≤ (if S x = true ∧ S y = false then r x y else 0) := fun x hx y hy => by
    have := f.nn x hx y hy
    split <;> omega
  intro x hx y hy h1 h2
  have a := sumL_le_zero (fun x hx => sumL_nonneg (nn x hx)) (Int.le_of_eq hz) x hx
  have b := sumL_le_zero (nn x hx) (Int.le_of_eq a) y hy
  rwa [if_pos ⟨h1, h2⟩] at b
/-- a side without room outward: this amount leaves it -/
theorem Flow.met (f : Flow ks c one other r amount) (s : Side ks one other S) (h : ∀ x ∈ ks, ∀ y ∈ ks, S x = true → S y = false → r x y = 0) : leave ks c S = amount := by
  rw [f.cut s]
  refine sumL_congr fun x hx => sumL_congr fun y hy => ?_
  by_cases q : S x = true ∧ S y = false
  · rw [if_pos q, if_pos q]
    dsimp only
    rw [h x hx y hy q.1 q.2]; omega
  · rw [if_neg q, if_neg q]
end
/-! ### pushing along a way -/
def pushF (r : Fl) (x y : Str) (m : Int) : Fl := fun a b => if a = x ∧ b = y then r a b - m else if a = y ∧ b = x then r a b + m else r a b
section
variable {ks : List Str} {c r : Fl} {one other : Str → Bool} {amount m : Int}
theorem push_anti (h : ∀ a ∈ ks, ∀ b ∈ ks, c a b - r a b = - (c b a - r b a)) {x y : Str} (hne : x ≠ y) : ∀ a ∈ ks, ∀ b ∈ ks, c a b - pushF r x y m a b = - (c b a - pushF r x y m b a) := fun a ha b hb => by
  have := h a ha b hb
  unfold pushF
  by_cases q : a = x ∧ b = y
  · have q2 : ¬ (b = x ∧ a = y) := fun z => hne (z.1.symm.trans q.2)
    rw [if_pos q, if_neg q2, if_pos ⟨q.2, q.1⟩]; omega
  · rw [if_neg q]
    by_cases p : a = y ∧ b = x
    · rw [if_pos p, if_pos ⟨p.2, p.1⟩]; omega
    · rw [if_neg p, if_neg fun z => p ⟨z.2, z.1⟩, if_neg fun z => q ⟨z.2, z.1⟩]; omega
theorem push_out (nd : ks.Nodup) {x y : Str} (hx : x ∈ ks) (hy : y ∈ ks) (hne : x ≠ y) (v : Str) : outF ks (fun a b => c a b - pushF r x y m a b) v = outF ks (fun a b => c a b - r a b) v + (if v = x then m else 0) - (if v = y then m else 0) := by
  unfold outF
  dsimp only
  have e : ∀ b ∈ ks, c v b - pushF r x y m v b = (c v b - r v b) + ((if b = y then (if v = x then m else 0) else 0) - (if b = x then (if v = y then m else 0) else 0)) := fun b _ => by
    unfold pushF
    by_cases q : v = x ∧ b = y
    · rw [if_pos q, if_pos q.2, if_pos q.1]
      have : ¬ b = x := fun z => hne (z.symm.trans q.2)
      rw [if_neg this]; omega
    · rw [if_neg q]
      by_cases p : v = y ∧ b = x
      · rw [if_pos p, if_pos p.2, if_pos p.1]
        have : ¬ b = y := fun z => hne (p.2.symm.trans z)
        rw [if_neg this]; omega
      · rw [if_neg p]
        have a1 : (if b = y then (if v = x then m else 0) else 0) = 0 := by
          by_cases z : b = y
          · rw [if_pos z, if_neg fun w => q ⟨w, z⟩]
          · rw [if_neg z]
        have a2 : (if b = x then (if v = y then m else 0) else 0) = 0 := by
          by_cases z : b = x
          · rw [if_pos z, if_neg fun w => p ⟨w, z⟩]
          · rw [if_neg z]
        rw [a1, a2]; omega
  rw [sumL_congr e, sumL_add, sumL_sub (l := ks) (g := fun b => if b = y then (if v = x then m else 0) else 0), sumL_one nd hy, sumL_one nd hx]
  omega
end
/-- the room after the first arcs of a way -/
def pushN (r : Fl) (m : Int) (w : List Str) : Nat → Fl
  | 0 => r
  | i + 1 => match w[i]?, w[i + 1]? with
    | some x, some y => pushF (pushN r m w i) x y m
    | _, _ => pushN r m w i
theorem pushN_succ {r : Fl} {m : Int} {w : List Str} {i : Nat} {x y : Str} (h1 : w[i]? = some x) (h2 : w[i + 1]? = some y) : pushN r m w (i + 1) = pushF (pushN r m w i) x y m := by
  show (match w[i]?, w[i + 1]? with | some x, some y => pushF (pushN r m w i) x y m | _, _ => pushN r m w i) = _
  rw [h1, h2]
/-- a way: places, each once, with room for m from each to the next -/
structure WayOk (ks : List Str) (r : Fl) (m : Int) (w : List Str) : Prop where
  mem : ∀ x ∈ w, x ∈ ks
  nd : w.Nodup
  room : ∀ i x y, w[i]? = some x → w[i + 1]? = some y → m ≤ r x y
theorem nd_ix {w : List Str} (nd : w.Nodup) {i j : Nat} {x : Str} (h1 : w[i]? = some x) (h2 : w[j]? = some x) : i = j := by
  have a := (List.getElem?_eq_some_iff.mp h1).1
  exact (List.getElem?_inj a nd).mp (h1.trans h2.symm)
section
variable {ks : List Str} {c r : Fl} {one other : Str → Bool} {amount m : Int} {w : List Str}
theorem WayOk.later (h : WayOk ks r m w) : ∀ (i j : Nat) (x y : Str), i ≤ j → w[j]? = some x → w[j + 1]? = some y → pushN r m w i x y = r x y
  | 0, _, _, _, _, _, _ => rfl
  | i + 1, j, x, y, hij, hx, hy => by
    have ih := WayOk.later h i j x y (by omega) hx hy
    cases h1 : w[i]? with
    | none =>
      have : w.length ≤ i := by simpa using h1
      have := (List.getElem?_eq_some_iff.mp hx).1
      omega
    | some a =>
    cases h2 : w[i + 1]? with
    | none =>
      have : w.length ≤ i + 1 := by simpa using h2
      have := (List.getElem?_eq_some_iff.mp hx).1
      omega
    | some b =>
    rw [pushN_succ h1 h2]
    unfold pushF
    rw [if_neg, if_neg]
    · exact ih
    · rintro ⟨e1, e2⟩
      subst e1 e2
      have q1 := nd_ix h.nd hx h2
      have q2 := nd_ix h.nd hy h1
      omega
    · rintro ⟨e1, e2⟩
      subst e1 e2
      have q1 := nd_ix h.nd hx h1
      omega
theorem WayOk.nn (h : WayOk ks r m w) (hm : 0 ≤ m) (nn : ∀ x ∈ ks, ∀ y ∈ ks, 0 ≤ r x y) : ∀ i, ∀ x ∈ ks, ∀ y ∈ ks, 0 ≤ pushN r m w i x y
  | 0 => nn
  | i + 1 => fun x hx y hy => by
    have ih := WayOk.nn h hm nn i
    cases h1 : w[i]? with
    | none =>
      have e : pushN r m w (i + 1) = pushN r m w i := by
        show (match w[i]?, w[i + 1]? with | some x, some y => pushF (pushN r m w i) x y m | _, _ => pushN r m w i) = _
        rw [h1]
      rw [e]; exact ih x hx y hy
    | some a =>
    cases h2 : w[i + 1]? with
    | none =>
      have e : pushN r m w (i + 1) = pushN r m w i := by
        show (match w[i]?, w[i + 1]? with | some x, some y => pushF (pushN r m w i) x y m | _, _ => pushN r m w i) = _
        rw [h1, h2]
      rw [e]; exact ih x hx y hy
    | some b =>
    rw [pushN_succ h1 h2]
    have e := h.later i i a b (Nat.le_refl _) h1 h2
    have g := h.room i a b h1 h2
    have z := ih x hx y hy
    unfold pushF
    by_cases q : x = a ∧ y = b
    · rw [if_pos q, q.1, q.2, e]; omega
    · rw [if_neg q]; split <;> omega
theorem WayOk.anti (h : WayOk ks r m w) (an : ∀ x ∈ ks, ∀ y ∈ ks, c x y - r x y = - (c y x - r y x)) : ∀ i, ∀ x ∈ ks, ∀ y ∈ ks, c x y - pushN r m w i x y = - (c y x - pushN r m w i y x)
  | 0 => an
  | i + 1 => by
    have ih := WayOk.anti h an i
    cases h1 : w[i]? with
    | none =>
      have e : pushN r m w (i + 1) = pushN r m w i := by
        show (match w[i]?, w[i + 1]? with | some x, some y => pushF (pushN r m w i) x y m | _, _ => pushN r m w i) = _
        rw [h1]
      rw [e]; exact ih
    | some a =>
    cases h2 : w[i + 1]? with
    | none =>
      have e : pushN r m w (i + 1) = pushN r m w i := by
        show (match w[i]?, w[i + 1]? with | some x, some y => pushF (pushN r m w i) x y m | _, _ => pushN r m w i) = _
        rw [h1, h2]
      rw [e]; exact ih
    | some b =>
    rw [pushN_succ h1 h2]
    refine push_anti ih fun e => ?_
    subst e
    have := nd_ix h.nd h1 h2
    omega
theorem WayOk.out (h : WayOk ks r m w) (nd : ks.Nodup) {x0 : Str} (h0 : w[0]? = some x0) (v : Str) : ∀ (i : Nat) (x : Str), w[i]? = some x → outF ks (fun a b => c a b - pushN r m w i a b) v = outF ks (fun a b => c a b - r a b) v + (if v = x0 then m else 0) - (if v = x then m else 0)
  | 0, x, hx => by
    rw [h0] at hx
    cases hx
    show outF ks (fun a b => c a b - r a b) v = _
    omega
  | i + 1, y, hy => by
    cases h1 : w[i]? with
    | none =>
      have : w.length ≤ i := by simpa using h1
      have := (List.getElem?_eq_some_iff.mp hy).1
      omega
    | some x =>
    have ih := WayOk.out h nd h0 v i x h1
    rw [pushN_succ h1 hy]
    have hne : x ≠ y := fun e => by
      subst e
      have := nd_ix h.nd h1 hy
      omega
    rw [push_out nd (h.mem _ (List.mem_of_getElem? h1)) (h.mem _ (List.mem_of_getElem? hy)) hne, ih]
    omega
/-- one way more -/
theorem Flow.push (f : Flow ks c one other r amount) (nd : ks.Nodup) (dj : ∀ x ∈ ks, one x = true → other x = false) (h : WayOk ks r m w) (hm : 0 ≤ m) {k : Nat} {x0 xk : Str} (h0 : w[0]? = some x0) (hk : w[k]? = some xk) (o0 : one x0 = true) (ok : other xk = true) :
    Flow ks c one other (pushN r m w k) (amount + m) := by
  have m0 := h.mem _ (List.mem_of_getElem? h0)
  have mk := h.mem _ (List.mem_of_getElem? hk)
  refine ⟨h.nn hm f.nn k, h.anti f.anti k, fun x hx hx1 hx2 => ?_, ?_⟩
  · rw [h.out nd h0 x k xk hk, f.cons x hx hx1 hx2, if_neg (fun e => by rw [e, o0] at hx1; cases hx1), if_neg (fun e => by rw [e, ok] at hx2; cases hx2)]; rfl
  · have hok : one xk = false := by
      cases q : one xk with
      | false => rfl
      | true => rw [dj xk mk q] at ok; cases ok
    have e : ∀ x ∈ ks, (if one x = true then outF ks (fun a b => c a b - pushN r m w k a b) x else 0) = (if one x = true then outF ks (fun a b => c a b - r a b) x else 0) + (if x = x0 then m else 0) := fun x _ => by
      cases q : one x with
      | false => rw [if_neg (by simp), if_neg (by simp), if_neg (fun e => by rw [e, o0] at q; cases q)]; rfl
      | true =>
        rw [if_pos rfl, if_pos rfl, h.out nd h0 x k xk hk]
        have : ¬ x = xk := fun e => by rw [e, hok] at q; cases q
        rw [if_neg this]; omega
    rw [sumL_congr e, sumL_add, sumL_one nd m0, ← f.amt]
theorem Flow.start (nnc : ∀ x ∈ ks, ∀ y ∈ ks, 0 ≤ c x y) : Flow ks c one other c 0 :=
  ⟨nnc, fun x _ y _ => by omega, fun x _ _ _ => sumL_zero fun y _ => by simp, (sumL_zero fun x _ => by
    split
    · exact sumL_zero fun y _ => by simp
    · rfl).symm⟩
end
end L2

set_option Elab.async false
set_option linter.all false
set_option maxRecDepth 100000
set_option maxHeartbeats 4000000
/-! what is reached, and ways (own work) -/
namespace L2
open PySem PySem.Spec PyProof.Rows
theorem op_in_seqK {X : Cx} {K : PySem.W.Frag} (hK : X.K = K) : OpR X (compareOp .In) (rIn K false) := by subst hK; exact op_in_seq
theorem inV_strs (x : Str) : ∀ ss : List Str, inV (.str x) (ss.map V.str) = decide (x ∈ ss)
  | [] => by simp [inV]
  | y :: ss => by
    have ih := inV_strs x ss
    unfold inV at ih ⊢
    simp only [List.map_cons, List.any_cons]
    rw [ih]
    by_cases h : x = y
    · subst h; simp [eqV]
    · have h' : ¬ y = x := fun z => h z.symm
      simp [eqV, h, h']
theorem flat_strs : ∀ ss : List Str, (ss.map V.str).all flatV = true
  | [] => rfl
  | _ :: ss => by simp only [List.map_cons, List.all_cons, flat_strs ss]; rfl
/-- the number that rows tell -/
def rc (g : Str → Row) : Fl := fun x y => (look (g x) y).getD 0
/-! ### places reached, each with the place ahead of it -/
abbrev Ah := List (Str × Option Str)
def ahV : Option Str → V | none => .non | some p => .str p
def ahK (L : Ah) : List (Key × V) := L.map fun e => (Sum.inr e.1, ahV e.2)
def ahOf (L : Ah) (x : Str) : Option (Option Str) := (L.find? fun e => decide (e.1 = x)).map (·.2)
theorem valV_ahK (L : Ah) (x : Str) : valV (ahK L) (Sum.inr x) = (ahOf L x).map ahV := by
  unfold ahK ahOf valV
  induction L with
  | nil => rfl
  | cons e L ih =>
    by_cases h : e.1 = x
    · simp [List.find?_cons, h]
    · have h' : ¬ (Sum.inr e.1 : Key) = Sum.inr x := fun z => h (by injection z)
      simp only [List.map_cons, List.find?_cons, h, h', decide_false]
      exact ih
theorem ahOf_none {L : Ah} {x : Str} : ahOf L x = none ↔ x ∉ L.map (·.1) := by
  unfold ahOf
  rw [Option.map_eq_none_iff, List.find?_eq_none]
  constructor
  · intro h hm
    obtain ⟨e, he, q⟩ := List.mem_map.mp hm
    exact h e he (by simp [q])
  · intro h e he q
    exact h (List.mem_map.mpr ⟨e, he, by simpa using q⟩)
theorem ahOf_get {L : Ah} (nd : (L.map (·.1)).Nodup) {i : Nat} {e : Str × Option Str} (h : L[i]? = some e) : ahOf L e.1 = some e.2 := by
  unfold ahOf
  have hm := List.mem_of_getElem? h
  cases q : L.find? fun z => decide (z.1 = e.1) with
  | none => exact absurd (List.find?_eq_none.mp q e hm) (by simp)
  | some z =>
    have hz := List.find?_some q
    have : z = e := nd_inj nd (List.mem_of_find?_eq_some q) hm (by simpa using hz)
    rw [this]; rfl
theorem ahK_put {L : Ah} {x : Str} (p : Option Str) (h : x ∉ L.map (·.1)) : putK (ahK L) (Sum.inr x) (ahV p) = ahK (L ++ [(x, p)]) := by
  rw [putK_new]
  · unfold ahK; rw [List.map_append]; rfl
  · rw [valV_ahK, ahOf_none.mpr h]; rfl
structure Bfs (ks : List Str) (r : Fl) (os : List Str) (L : Ah) : Prop where
  nd : (L.map (·.1)).Nodup
  mem : ∀ x ∈ L.map (·.1), x ∈ ks
  ones : ∀ x ∈ os, x ∈ L.map (·.1)
  par : ∀ (i : Nat) (x : Str) (p : Option Str), L[i]? = some (x, p) → (p = none ∧ x ∈ os) ∨ ∃ (y : Str) (j : Nat) (q : Option Str), p = some y ∧ j < i ∧ L[j]? = some (y, q) ∧ 0 < r y x
/-- all room from the first i of them leads to them -/
def Done (ks : List Str) (r : Fl) (L : Ah) (i : Nat) : Prop := ∀ x ∈ (L.take i).map (·.1), ∀ y ∈ ks, 0 < r x y → y ∈ L.map (·.1)
theorem Bfs.start {ks os : List Str} {r : Fl} (nd : os.Nodup) (h : ∀ x ∈ os, x ∈ ks) : Bfs ks r os ((sortS os).map fun x => (x, none)) := by
  have e : ((sortS os).map fun x => ((x, none) : Str × Option Str)).map (·.1) = sortS os := by rw [List.map_map]; exact List.map_id' _
  refine ⟨by rw [e]; exact sortS_nodup nd, fun x hx => ?_, fun x hx => by rw [e]; exact mem_sortS.mpr hx, fun i x p hi => .inl ?_⟩
  · rw [e] at hx; exact h x (mem_sortS.mp hx)
  · rw [List.getElem?_map] at hi
    cases q : (sortS os)[i]? with
    | none => rw [q] at hi; cases hi
    | some z =>
      rw [q] at hi
      cases hi
      exact ⟨rfl, mem_sortS.mp (List.mem_of_getElem? q)⟩
theorem Bfs.snoc {ks os : List Str} {r : Fl} {L : Ah} (b : Bfs ks r os L) {x y : Str} {j : Nat} {q : Option Str} (hj : L[j]? = some (y, q)) (hx : x ∉ L.map (·.1)) (hk : x ∈ ks) (hr : 0 < r y x) : Bfs ks r os (L ++ [(x, some y)]) := by
  refine ⟨?_, fun z hz => ?_, fun z hz => ?_, fun i z p hi => ?_⟩
  · rw [List.map_append]; exact nd_snoc b.nd hx
  · rw [List.map_append] at hz
    rcases List.mem_append.mp hz with c | c
    · exact b.mem z c
    · rw [show z = x by simpa using c]; exact hk
  · rw [List.map_append]; exact List.mem_append_left _ (b.ones z hz)
  · have hjl := (List.getElem?_eq_some_iff.mp hj).1
    rw [List.getElem?_append] at hi
    split at hi
    · rcases b.par i z p hi with c | ⟨y', j', q', c1, c2, c3, c4⟩
      · exact .inl c
      · exact .inr ⟨y', j', q', c1, c2, by rw [List.getElem?_append_left ((List.getElem?_eq_some_iff.mp c3).1)]; exact c3, c4⟩
    · rename_i hge
      have : i - L.length = 0 := by
        have := (List.getElem?_eq_some_iff.mp hi).1
        simp at this
        omega
      rw [this] at hi
      cases hi
      exact .inr ⟨y, j, q, rfl, by omega, by rw [List.getElem?_append_left hjl]; exact hj, hr⟩
theorem Done.snoc {ks : List Str} {r : Fl} {L : Ah} {i : Nat} (d : Done ks r L i) (hi : i ≤ L.length) (e : Str × Option Str) : Done ks r (L ++ [e]) i := fun x hx y hy h => by
  rw [List.take_append_of_le_length hi] at hx
  rw [List.map_append]
  exact List.mem_append_left _ (d x hx y hy h)
theorem Bfs.len {ks os : List Str} {r : Fl} {L : Ah} (b : Bfs ks r os L) : L.length ≤ ks.length := by
  have := nd_len b.nd b.mem
  rwa [List.length_map] at this
/-- closed at the end -/
theorem Done.all {ks : List Str} {r : Fl} {L : Ah} (d : Done ks r L L.length) : ∀ x ∈ L.map (·.1), ∀ y ∈ ks, 0 < r x y → y ∈ L.map (·.1) := by
  unfold Done at d
  rwa [List.take_of_length_le (Nat.le_refl _)] at d
/-- what is reached lies in every set that holds the beginnings and that no room leads out of -/
theorem Bfs.within {ks os : List Str} {r : Fl} {L : Ah} (b : Bfs ks r os L) {S : Str → Bool} (h1 : ∀ x ∈ os, S x = true) (h2 : ∀ x ∈ ks, ∀ y ∈ ks, S x = true → 0 < r x y → S y = true) : ∀ x ∈ L.map (·.1), S x = true := by
  have key : ∀ (n i : Nat) (x : Str) (p : Option Str), i ≤ n → L[i]? = some (x, p) → S x = true := by
    intro n
    induction n with
    | zero =>
      intro i x p hi hx
      rcases b.par i x p hx with ⟨_, q⟩ | ⟨_, j, _, _, hj, _⟩
      · exact h1 x q
      · omega
    | succ n ih =>
      intro i x p hi hx
      rcases b.par i x p hx with ⟨_, q⟩ | ⟨y, j, q, _, hj, hy, hr⟩
      · exact h1 x q
      · have my : y ∈ ks := b.mem y (List.mem_map.mpr ⟨_, List.mem_of_getElem? hy, rfl⟩)
        have mx : x ∈ ks := b.mem x (List.mem_map.mpr ⟨_, List.mem_of_getElem? hx, rfl⟩)
        exact h2 y my x mx (ih j y q (by omega) hy) hr
  intro x hx
  obtain ⟨e, he, rfl⟩ := List.mem_map.mp hx
  obtain ⟨i, hi⟩ := List.getElem?_of_mem he
  exact key i i e.1 e.2 (Nat.le_refl _) hi
/-- a way from the place at i of the list on: from each to the next there is room -/
structure Trail (ks os : List Str) (r : Fl) (L : Ah) (i : Nat) (w : List Str) : Prop where
  head : ∃ x p, w[0]? = some x ∧ L[i]? = some (x, p)
  mem : ∀ x ∈ w, x ∈ ks
  nd : w.Nodup
  late : ∀ (k : Nat) (x : Str), w[k + 1]? = some x → ∃ j p, i < j ∧ L[j]? = some (x, p)
  room : ∀ (k : Nat) (x y : Str), w[k]? = some x → w[k + 1]? = some y → 0 < r x y
theorem Trail.one {ks os : List Str} {r : Fl} {L : Ah} (b : Bfs ks r os L) {i : Nat} {x : Str} {p : Option Str} (h : L[i]? = some (x, p)) : Trail ks os r L i [x] := by
  refine ⟨⟨x, p, rfl, h⟩, fun y hy => ?_, by simp, fun k y hk => ?_, fun k y z _ hk => ?_⟩
  · rw [show y = x by simpa using hy]; exact b.mem x (List.mem_map.mpr ⟨_, List.mem_of_getElem? h, rfl⟩)
  · simp at hk
  · simp at hk
theorem Trail.cons {ks os : List Str} {r : Fl} {L : Ah} (b : Bfs ks r os L) {i j : Nat} {w : List Str} {x y : Str} {p : Option Str} (t : Trail ks os r L i w) (hx : w[0]? = some x) (hj : j < i) (hy : L[j]? = some (y, p)) (hr : 0 < r y x) : Trail ks os r L j (y :: w) := by
  obtain ⟨x', p', hx', hL⟩ := t.head
  rw [hx] at hx'
  cases hx'
  have later : ∀ z ∈ w, ∃ k q, j < k ∧ L[k]? = some (z, q) := fun z hz => by
    obtain ⟨k, hk⟩ := List.getElem?_of_mem hz
    cases k with
    | zero =>
      rw [hx] at hk
      cases hk
      exact ⟨i, p', hj, hL⟩
    | succ k =>
      obtain ⟨k', q, h1, h2⟩ := t.late k z hk
      exact ⟨k', q, by omega, h2⟩
  refine ⟨⟨y, p, rfl, hy⟩, fun z hz => ?_, ?_, fun k z hk => ?_, fun k a c h1 h2 => ?_⟩
  · rcases List.mem_cons.mp hz with e | e
    · rw [e]; exact b.mem y (List.mem_map.mpr ⟨_, List.mem_of_getElem? hy, rfl⟩)
    · exact t.mem z e
  · refine List.nodup_cons.mpr ⟨fun hm => ?_, t.nd⟩
    obtain ⟨k, q, h1, h2⟩ := later y hm
    have a1 : (L.map (·.1))[j]? = some y := by rw [List.getElem?_map, hy]; rfl
    have a2 : (L.map (·.1))[k]? = some y := by rw [List.getElem?_map, h2]; rfl
    have := nd_ix b.nd a1 a2
    omega
  · rw [List.getElem?_cons_succ] at hk
    exact later z (List.mem_of_getElem? hk)
  · rw [List.getElem?_cons_succ] at h2
    cases k with
    | zero =>
      rw [List.getElem?_cons_zero] at h1
      cases h1
      rw [hx] at h2
      cases h2
      exact hr
    | succ k =>
      rw [List.getElem?_cons_succ] at h1
      exact t.room k a c h1 h2
end L2

set_option Elab.async false
set_option linter.all false
set_option maxRecDepth 100000
set_option maxHeartbeats 4000000
namespace L2
open PySem PySem.Spec PyProof.Rows
/-! ### the room: each way has the one against it -/
def defRow (l : Row) (k : Str) : Row := if (look l k).isSome = true then l else put l k 0
def defR (g : Str → Row) (x k : Str) : Str → Row := fun z => if z = x then defRow (g x) k else g z
theorem encI_def (l : Row) (k : Str) : defK (encI l) (Sum.inr k) (.int 0) = encI (defRow l k) := by
  unfold defK defRow
  rw [valV_enc, Option.isSome_map]
  split
  · rfl
  · exact encI_put l k 0
theorem look_defRow (l : Row) (k z : Str) : look (defRow l k) z = if k = z ∧ look l k = none then some 0 else look l z := by
  unfold defRow
  cases h : look l k with
  | none =>
    rw [if_neg (by simp), look_put]
    by_cases c : k = z
    · rw [if_pos c, if_pos ⟨c, rfl⟩]
    · rw [if_neg c, if_neg fun q => c q.1]
  | some v => rw [if_pos (show (some v).isSome = true from rfl), if_neg fun q => by cases q.2]
theorem look_defR (g : Str → Row) (x k a z : Str) : look (defR g x k a) z = if a = x ∧ k = z ∧ look (g x) k = none then some 0 else look (g a) z := by
  unfold defR
  by_cases h : a = x
  · subst h
    rw [if_pos rfl, look_defRow]
    by_cases c : k = z ∧ look (g a) k = none
    · rw [if_pos c, if_pos ⟨rfl, c⟩]
    · rw [if_neg c, if_neg fun q => c q.2]
  · rw [if_neg h, if_neg fun q => h q.1]
theorem rc_defR (g : Str → Row) (x k a z : Str) : rc (defR g x k) a z = rc g a z := by
  unfold rc
  rw [look_defR]
  by_cases c : a = x ∧ k = z ∧ look (g x) k = none
  · obtain ⟨rfl, rfl, h⟩ := c
    rw [if_pos ⟨rfl, rfl, h⟩, h]; rfl
  · rw [if_neg c]
theorem defR_nd {g : Str → Row} {x k a : Str} (hx : ((g x).map (·.1)).Nodup) (ha : ((g a).map (·.1)).Nodup) : ((defR g x k a).map (·.1)).Nodup := by
  unfold defR
  split
  · unfold defRow
    split
    · exact hx
    · exact put_nodup _ _ hx
  · exact ha
theorem NetAt.defr {H : Hp} {a b : Addr} {bs : Outer} {f : Str → Row} {x : Str} (n : NetAt H a bs f) (h : addrOf bs x = some b) (y : Str) : NetAt (upd H b (.dK (encI (defRow (f x) y)))) a bs (defR f x y) := by
  refine ⟨?_, fun q hq => ?_, n.ks, n.nd⟩
  · rw [upd_ne (n.ne h).symm]; exact n.out
  · by_cases e : q.2 = b
    · have : q = (x, b) := nd_inj (List.nodup_cons.mp n.nd).2 hq (addrOf_mem h) e
      subst this
      rw [upd_same]
      unfold defR
      rw [if_pos rfl]
    · rw [upd_ne e]
      have hne : ¬ q.1 = x := fun z => e (by
        have : q = (x, b) := nd_inj n.ks hq (addrOf_mem h) z
        rw [this])
      unfold defR
      rw [if_neg hne]
      exact n.inn q hq
structure RoomOf (ks : List Str) (f g : Str → Row) : Prop where
  rows : RowsIn ks g
  same : ∀ x y, rc g x y = rc f x y
  keys : ∀ x ∈ ks, ∀ y ∈ ks, (look (g x) y).isSome = ((look (f x) y).isSome || (look (f y) x).isSome)
structure RoomI (ks : List Str) (f g : Str → Row) (i : Nat) : Prop where
  rows : RowsIn ks g
  same : ∀ x y, rc g x y = rc f x y
  keys : ∀ x ∈ ks, ∀ y ∈ ks, (look (g x) y).isSome = ((look (f x) y).isSome || (decide (y ∈ ks.take i) && (look (f y) x).isSome))
structure RoomJ (ks : List Str) (f g : Str → Row) (i : Nat) (k : Str) (j : Nat) : Prop where
  rows : RowsIn ks g
  same : ∀ x y, rc g x y = rc f x y
  keys : ∀ x ∈ ks, ∀ y ∈ ks, (look (g x) y).isSome = ((look (f x) y).isSome || (decide (y ∈ ks.take i) && (look (f y) x).isSome) || (decide (y = k) && decide (x ∈ ((f k).map (·.1)).take j)))
theorem RoomI.zero {ks : List Str} {f : Str → Row} (h : RowsIn ks f) : RoomI ks f f 0 := ⟨h, fun _ _ => rfl, fun x _ y _ => by simp⟩
theorem RoomJ.zero {ks : List Str} {f g : Str → Row} {i : Nat} {k : Str} (h : RoomI ks f g i) : RoomJ ks f g i k 0 := ⟨h.rows, h.same, fun x hx y hy => by rw [h.keys x hx y hy]; simp⟩
theorem RoomJ.succ {ks : List Str} {f g : Str → Row} {i j : Nat} {k : Str} (h : RoomJ ks f g i k j) {e : Str × Int} (he : (f k)[j]? = some e) (hk : k ∈ ks) (hem : e.1 ∈ ks) : RoomJ ks f (defR g e.1 k) i k (j + 1) := by
  have he1 : ((f k).map (·.1))[j]? = some e.1 := by rw [List.getElem?_map, he]; rfl
  refine ⟨⟨fun x hx => defR_nd (h.rows.nd _ hem) (h.rows.nd x hx), fun x hx y hy => ?_⟩, fun x y => by rw [rc_defR]; exact h.same x y, fun x hx y hy => ?_⟩
  · obtain ⟨v, hv⟩ := look_some_iff.mpr hy
    rw [look_defR] at hv
    by_cases c : x = e.1 ∧ k = y ∧ look (g e.1) k = none
    · rw [← c.2.1]; exact hk
    · rw [if_neg c] at hv
      exact h.rows.inn x hx y (look_some_iff.mp ⟨v, hv⟩)
  · have hh := h.keys x hx y hy
    rw [look_defR, List.take_add_one, he1]
    by_cases c : x = e.1 ∧ k = y ∧ look (g e.1) k = none
    · rw [if_pos c]
      obtain ⟨rfl, rfl, _⟩ := c
      simp
    · rw [if_neg c, hh]
      by_cases d : y = k
      · subst d
        by_cases d2 : x = e.1
        · subst d2
          have : (look (g e.1) y).isSome = true := by
            cases z : look (g e.1) y with
            | none => exact absurd ⟨rfl, rfl, z⟩ c
            | some v => rfl
          rw [hh] at this
          rw [this]; simp
        · simp [d2]
      · simp [d]
theorem RoomJ.last {ks : List Str} {f g : Str → Row} {i : Nat} {k : Str} (h : RoomJ ks f g i k (f k).length) (hk : ks[i]? = some k) (nd : ks.Nodup) : RoomI ks f g (i + 1) := by
  refine ⟨h.rows, h.same, fun x hx y hy => ?_⟩
  rw [h.keys x hx y hy, List.take_add_one, hk]
  have e : ((f k).map (·.1)).take (f k).length = (f k).map (·.1) := List.take_of_length_le (by rw [List.length_map]; exact Nat.le_refl _)
  rw [e]
  have e2 : decide (x ∈ (f k).map (·.1)) = (look (f k) x).isSome := by
    cases z : look (f k) x with
    | none => simpa using look_none.mp z
    | some v => simpa using look_some_iff.mp ⟨v, z⟩
  rw [e2]
  by_cases d : y = k
  · subst d
    have : y ∉ ks.take i := nodup_take nd hk
    simp [this]
  · simp [d]
theorem RoomI.done {ks : List Str} {f g : Str → Row} (h : RoomI ks f g ks.length) : RoomOf ks f g := ⟨h.rows, h.same, fun x hx y hy => by
  rw [h.keys x hx y hy, List.take_of_length_le (Nat.le_refl _)]
  simp [hy]⟩
end L2
namespace L2
open PySem PySem.Spec PyProof.Rows
theorem pg_twoK {X : Cx} {K : PySem.W.Frag} (hK : X.K = K) {i j : Nat} {x y : Str} {p1 p2 pos : Pos} {k : Nat} (hc : X.calm = true) (hN : X.N.Nodup) (hi : X.N[i]? = some x) (hj : X.N[j]? = some y) (hx : Loc X.env.scope x) (hy : Loc X.env.scope y)
    (hf1 : X.fn x = true ∨ X.env.scope.names.lookup x = some .local := by first | exact .inl rfl | exact .inr rfl | assumption) (hf2 : X.fn y = true ∨ X.env.scope.names.lookup y = some .local := by first | exact .inl rfl | exact .inr rfl | assumption) :
    PG X (.Tuple [.Name x p1, .Name y p2] k pos) (gTup K 2 (gCons (gName i) (gCons (gName j) gNil))) := by
  subst hK
  exact pg_tup hc (pgs_cons (pg_name hN hi hx hf1) (pgs_cons (pg_name hN hj hy hf2) pgs_nil))
end L2

set_option Elab.async false
set_option linter.all false
set_option maxRecDepth 100000
set_option maxHeartbeats 4000000
namespace L2
open PySem PySem.Spec PyProof.Rows
section
variable {ks : List Str} {c r r' : Fl} {one other : Str → Bool} {amount : Int}
theorem Flow.congr (f : Flow ks c one other r amount) (e : ∀ x ∈ ks, ∀ y ∈ ks, r' x y = r x y) : Flow ks c one other r' amount := by
  have ho : ∀ x ∈ ks, outF ks (fun x y => c x y - r' x y) x = outF ks (fun x y => c x y - r x y) x := fun x hx => by
    unfold outF
    exact sumL_congr fun y hy => by dsimp only; rw [e x hx y hy]
  refine ⟨fun x hx y hy => by rw [e x hx y hy]; exact f.nn x hx y hy, fun x hx y hy => by rw [e x hx y hy, e y hy x hx]; exact f.anti x hx y hy, fun x hx h1 h2 => by rw [ho x hx]; exact f.cons x hx h1 h2, ?_⟩
  rw [f.amt]
  refine sumL_congr fun x hx => ?_
  rw [ho x hx]
end
theorem rc_putR (g : Str → Row) (x y : Str) (v : Int) (a b : Str) : rc (putR g x y v) a b = if a = x ∧ b = y then v else rc g a b := by
  unfold rc
  by_cases h : a = x
  · subst h
    rw [putR_at, look_put]
    by_cases c : y = b
    · rw [if_pos c, if_pos ⟨rfl, c.symm⟩]; rfl
    · rw [if_neg c, if_neg fun q => c q.2.symm]
  · rw [putR_ne h, if_neg fun q => h q.1]
theorem some_putR {g : Str → Row} {x y : Str} {v : Int} (hs : (look (g x) y).isSome = true) (a b : Str) : (look (putR g x y v a) b).isSome = (look (g a) b).isSome := by
  by_cases h : a = x
  · subst h
    rw [putR_at, look_put]
    by_cases c : y = b
    · subst c; rw [if_pos rfl, hs]; rfl
    · rw [if_neg c]
  · rw [putR_ne h]
theorem RowsIn.putR {ss : List Str} {g : Str → Row} (h : RowsIn ss g) {x y : Str} {v : Int} (hx : x ∈ ss) (hy : y ∈ ss) : RowsIn ss (putR g x y v) := by
  refine ⟨fun a ha => ?_, fun a ha b hb => ?_⟩
  · by_cases c : a = x
    · subst c; rw [putR_at]; exact put_nodup _ _ (h.nd a ha)
    · rw [putR_ne c]; exact h.nd a ha
  · by_cases c : a = x
    · subst c
      rw [putR_at] at hb
      rcases (put_keys _ _ _ _).mp hb with e | e
      · rw [e]; exact hy
      · exact h.inn a ha b e
    · rw [putR_ne c] at hb; exact h.inn a ha b hb
def inB (l : List Str) : Str → Bool := fun x => decide (x ∈ l)
/-- the least amount, and the least side that just this amount leaves -/
structure LeastS (ks : List Str) (c : Fl) (os ts : List Str) (amount : Int) (R : List Str) : Prop where
  mem : ∀ x ∈ R, x ∈ ks
  side : Side ks (inB os) (inB ts) (inB R)
  eq : leave ks c (inB R) = amount
  least : ∀ S, Side ks (inB os) (inB ts) S → amount ≤ leave ks c S
  within : ∀ S, Side ks (inB os) (inB ts) S → leave ks c S = amount → ∀ x ∈ R, S x = true
theorem least_of {ks os ts : List Str} {c r : Fl} {amount : Int} {L L0 : Ah} (hos : ∀ x ∈ os, x ∈ ks) (f : Flow ks c (inB os) (inB ts) r amount) (b0 : Bfs ks r os L0) (d0 : Done ks r L0 L0.length) (h0 : ∀ x ∈ ts, x ∉ L0.map (·.1)) (b : Bfs ks r os L) (d : Done ks r L L.length) : LeastS ks c os ts amount (L.map (·.1)) := by
  have sub : ∀ x ∈ L.map (·.1), x ∈ L0.map (·.1) := fun x hx => by
    have := b.within (S := inB (L0.map (·.1))) (fun y hy => by simpa [inB] using b0.ones y hy) (fun x _ y hy h1 h2 => by
      have h1 : x ∈ L0.map (·.1) := by simpa [inB] using h1
      simpa [inB] using d0.all x h1 y hy h2) x hx
    simpa [inB] using this
  have sd : Side ks (inB os) (inB ts) (inB (L.map (·.1))) := ⟨fun x _ h => by
    have h : x ∈ os := by simpa [inB] using h
    simpa [inB] using b.ones x h, fun x _ h => by
    have h : x ∈ ts := by simpa [inB] using h
    have : x ∉ L.map (·.1) := fun z => h0 x h (sub x z)
    simpa [inB] using this⟩
  have noroom : ∀ x ∈ ks, ∀ y ∈ ks, inB (L.map (·.1)) x = true → inB (L.map (·.1)) y = false → r x y = 0 := fun x hx y hy h1 h2 => by
    have h1 : x ∈ L.map (·.1) := by simpa [inB] using h1
    have h2 : y ∉ L.map (·.1) := by simpa [inB] using h2
    have n := f.nn x hx y hy
    rcases Int.lt_or_eq_of_le n with z | z
    · exact absurd (d.all x h1 y hy z) h2
    · exact z.symm
  refine ⟨b.mem, sd, f.met sd noroom, fun S s => f.weak s, fun S s e => ?_⟩
  have t := f.tight s e
  exact b.within (fun x hx => s.has x (hos x hx) (by simpa [inB] using hx)) fun x hx y hy h1 h2 => by
    cases q : S y with
    | true => rfl
    | false =>
      have := t x hx y hy h1 q
      omega
end L2

set_option Elab.async false
set_option linter.all false
set_option maxRecDepth 100000
set_option maxHeartbeats 4000000
/-! rules: a sign times a number, d.items(), list(reversed(l)) (own work) -/
namespace L2
open PySem PySem.Spec PyProof.Rows PySem.SeqAt
/-! ### a sign, several times -/
section
variable {X : Cx}
end
/-! ### d.items() -/
def Iti (a : Addr) (o : Obj) (kvs : List (Key × V)) : It :=
  ⟨fun i H => H a = some (.frz o (.dK kvs)) ∧ i < kvs.length, fun i H x H' => ∃ p k v, H p = none ∧ x = .ref p ∧ kvs[i]? = some (k, v) ∧ H' = upd H p (.tup [kV k, v]), fun i H => H a = some (.frz o (.dK kvs)) ∧ kvs.length ≤ i⟩
def tForI (te : TE) (g : TG) (tb : TS) : TS := fun D σ H => te σ H fun x H1 => ∃ a kvs, x = .ref a ∧ Rd H1 a (.dK kvs) ∧ ∀ o H2, Fzn a o kvs H1 H2 → LoopVC (Iti a o kvs) g tb (thawE a o kvs H1 D) σ H2
section
variable {X : Cx} {elts : List Expr} {x1 : Nat} {tpos : Pos}
end
end L2

set_option Elab.async false
set_option linter.all false
set_option maxRecDepth 100000
set_option maxHeartbeats 4000000
/-! list(reversed(l)) (own work) -/
namespace L2
open PySem PySem.Spec PyProof.Rows PySem.SeqAt
section
variable {prog : Program} {w : World} {A : Around} {E : Value → Shared → Prop} {s : Shared} {r l : Addr}
end
section
variable {X : Cx}
def tListRev (K : PySem.W.Frag) (ta : TA) : TE := fun σ H Q => ta σ H fun vs H1 => ∃ l xs, vs = [.ref l] ∧ SqL K H1 l xs ∧ ∀ p, H1 p = none → Q (.ref p) (upd H1 p (.lst xs.reverse))
end
end L2

set_option Elab.async false
set_option linter.all false
set_option maxRecDepth 100000
set_option maxHeartbeats 4000000
namespace L2
open PySem PySem.Spec PyProof.Rows
def nmF (c : Int) (k : Nat) : Str :=
  if c % 3 = 0 then ofC (List.replicate (c / 24 % (1 + c / 3 % 8)).toNat 109 ++ [97 + ((c / 192 + 11 * (k : Int)) % 26).toNat] ++ List.replicate (1 + c / 3 % 8 - c / 24 % (1 + c / 3 % 8) - 1).toNat 109)
  else if c % 3 = 1 then ofC ([97 + ((c / 192 + 11 * (k : Int)) % 26).toNat] ++ List.replicate (((k : Int) * k + c / 192) % 8).toNat 109)
  else ofC ([97 + ((c / 192 + (k : Int) / 4) % 26).toNat] ++ List.replicate (3 - (k : Int) % 4).toNat 98)
end L2

set_option Elab.async false
set_option linter.all false
set_option maxRecDepth 100000
set_option maxHeartbeats 4000000
namespace L2
open PySem PySem.Spec PyProof.Rows
/-- rows of numbers from 0 on, to places -/
structure ArcOk (ks : List Str) (g : Str → Row) : Prop where
  nd : ∀ x, ((g x).map (·.1)).Nodup
  inn : ∀ x, ∀ y ∈ (g x).map (·.1), y ∈ ks
  nn : ∀ x y v, look (g x) y = some v → 0 ≤ v
theorem ArcOk.nil (ks : List Str) : ArcOk ks (fun _ => []) := ⟨fun _ => List.nodup_nil, fun _ _ h => absurd h (by simp), fun _ _ _ h => (by cases h)⟩
theorem ArcOk.put {ks : List Str} {g : Str → Row} (h : ArcOk ks g) {x y : Str} {v : Int} (hy : y ∈ ks) (hv : 0 ≤ v) : ArcOk ks (putR g x y v) := by
  refine ⟨fun a => ?_, fun a b hb => ?_, fun a b w hw => ?_⟩
  · by_cases c : a = x
    · subst c; rw [putR_at]; exact put_nodup _ _ (h.nd a)
    · rw [putR_ne c]; exact h.nd a
  · by_cases c : a = x
    · subst c
      rw [putR_at] at hb
      rcases (put_keys _ _ _ _).mp hb with e | e
      · rw [e]; exact hy
      · exact h.inn a b e
    · rw [putR_ne c] at hb; exact h.inn a b hb
  · by_cases c : a = x
    · subst c
      rw [putR_at, look_put] at hw
      by_cases d : y = b
      · rw [if_pos d] at hw; cases hw; exact hv
      · rw [if_neg d] at hw; exact h.nn a b w hw
    · rw [putR_ne c] at hw; exact h.nn a b w hw
theorem ArcOk.rows {ks : List Str} {g : Str → Row} (h : ArcOk ks g) : RowsIn ks g := ⟨fun x _ => h.nd x, fun x _ => h.inn x⟩
theorem ArcOk.rc0 {ks : List Str} {g : Str → Row} (h : ArcOk ks g) (x y : Str) : 0 ≤ rc g x y := by
  unfold rc
  cases z : look (g x) y with
  | none => exact Int.le_refl _
  | some v => exact h.nn x y v z
/-! ### what leaves a side, as the law sums it -/
def rowOut (l : Row) (ss : List Str) : Int := sumL l fun e => if e.1 ∈ ss then 0 else e.2
def amtF (g : Str → Row) (ss : List Str) : Int := sumL ss fun x => rowOut (g x) ss
theorem sumL_sub' {ks : List Str} (nk : ks.Nodup) (h : Str → Int) : ∀ {l : List Str}, l.Nodup → (∀ x ∈ l, x ∈ ks) → sumL ks (fun x => if x ∈ l then h x else 0) = sumL l h
  | [], _, _ => sumL_zero fun x _ => by simp
  | a :: l, nd, sub => by
    obtain ⟨n1, n2⟩ := List.nodup_cons.mp nd
    rw [sumL_cons, ← sumL_sub' nk h n2 fun x hx => sub x (List.mem_cons_of_mem _ hx)]
    have e : ∀ x ∈ ks, (if x ∈ a :: l then h x else 0) = (if x = a then h a else 0) + (if x ∈ l then h x else 0) := fun x _ => by
      by_cases c : x = a
      · subst c
        rw [if_pos (by simp), if_pos rfl, if_neg n1]; omega
      · rw [if_neg c]
        by_cases d : x ∈ l
        · rw [if_pos (List.mem_cons_of_mem _ d), if_pos d]; omega
        · rw [if_neg (by simp [c, d]), if_neg d]; rfl
    rw [sumL_congr e, sumL_add, sumL_one nk (sub a (by simp))]
theorem sumL_map {α β : Type} (f : α → β) (g : β → Int) (l : List α) : sumL (l.map f) g = sumL l fun a => g (f a) := by
  unfold sumL; rw [List.map_map]; rfl
theorem rowOut_eq {ks : List Str} {g : Str → Row} (nk : ks.Nodup) (r : RowsIn ks g) {x : Str} (hx : x ∈ ks) (ss : List Str) : rowOut (g x) ss = sumL ks fun y => if y ∈ ss then 0 else rc g x y := by
  have h1 := sumL_sub' nk (fun y => if y ∈ ss then 0 else rc g x y) (r.nd x hx) (r.inn x hx)
  have h2 : sumL ks (fun y => if y ∈ ss then 0 else rc g x y) = sumL ks (fun y => if y ∈ (g x).map (·.1) then (if y ∈ ss then 0 else rc g x y) else 0) := sumL_congr fun y _ => by
    by_cases c : y ∈ (g x).map (·.1)
    · rw [if_pos c]
    · rw [if_neg c]
      have : rc g x y = 0 := by unfold rc; rw [look_none.mpr c]; rfl
      rw [this]; split <;> rfl
  rw [h2, h1, sumL_map]
  unfold rowOut
  refine sumL_congr fun e he => ?_
  have : rc g x e.1 = e.2 := by unfold rc; rw [mem_look (r.nd x hx) (v := e.2) (by exact he)]; rfl
  rw [this]
theorem amtF_eq {ks : List Str} {g : Str → Row} (nk : ks.Nodup) (r : RowsIn ks g) {ss : List Str} (ns : ss.Nodup) (sub : ∀ x ∈ ss, x ∈ ks) : amtF g ss = leave ks (rc g) (inB ss) := by
  unfold amtF leave
  rw [← sumL_sub' nk _ ns sub]
  refine sumL_congr fun x hx => ?_
  by_cases c : x ∈ ss
  · rw [if_pos c, rowOut_eq nk r hx]
    refine sumL_congr fun y _ => ?_
    by_cases d : y ∈ ss
    · rw [if_pos d, if_neg (by simp [inB, d])]
    · rw [if_neg d, if_pos (by simp [inB, c, d])]
  · rw [if_neg c]
    exact (sumL_zero fun y _ => by rw [if_neg (by simp [inB, c])]).symm
theorem sumL_snoc {α : Type} (l : List α) (a : α) (g : α → Int) : sumL (l ++ (some a).toList) g = sumL l g + g a := by simp [sumL]
/-! ### the sides -/
abbrev Sds := List (Addr × List Str)
def sdV (zs : Sds) : List V := zs.map fun z => V.ref z.1
structure SidesOk (ks os ts : List Str) (i : Nat) (zs : Sds) : Prop where
  nd : ∀ z ∈ zs, z.2.Nodup
  sub : ∀ z ∈ zs, ∀ x ∈ z.2, x ∈ os ∨ (x ∈ ks.take i ∧ x ∉ ts)
  has : ∀ z ∈ zs, ∀ x ∈ os, x ∈ z.2
  all : ∀ S : Str → Bool, (∀ x ∈ ts, S x = false) → ∃ z ∈ zs, ∀ x, x ∈ z.2 ↔ (x ∈ os ∨ (x ∈ ks.take i ∧ S x = true))
theorem SidesOk.first {ks os ts : List Str} (no : os.Nodup) (b : Addr) : SidesOk ks os ts 0 [(b, sortS os)] := by
  refine ⟨fun z hz => ?_, fun z hz x hx => ?_, fun z hz x hx => ?_, fun S _ => ⟨(b, sortS os), by simp, fun x => ?_⟩⟩
  · rw [List.mem_singleton.mp hz]; exact sortS_nodup no
  · rw [List.mem_singleton.mp hz] at hx; exact .inl (mem_sortS.mp hx)
  · rw [List.mem_singleton.mp hz]; exact mem_sortS.mpr hx
  · show x ∈ sortS os ↔ _
    rw [mem_sortS]; simp
theorem take_snoc {ks : List Str} {i : Nat} {k : Str} (hk : ks[i]? = some k) (x : Str) : x ∈ ks.take (i + 1) ↔ x ∈ ks.take i ∨ x = k := by
  rw [List.take_add_one, hk, List.mem_append]; simp
theorem SidesOk.step {ks os ts : List Str} {i : Nat} {zs ws : Sds} {k : Str} (h : SidesOk ks os ts i zs) (nk : ks.Nodup) (hk : ks[i]? = some k) (h1 : k ∉ os) (h2 : k ∉ ts) (hw : ws.map (·.2) = zs.map fun z => sortS (z.2 ++ [k])) : SidesOk ks os ts (i + 1) (zs ++ ws) := by
  have hold : ∀ z ∈ zs, k ∉ z.2 := fun z hz m => by
    rcases h.sub z hz k m with c | ⟨c, _⟩
    · exact h1 c
    · exact nodup_take nk hk c
  have hnew : ∀ u ∈ ws, ∃ z ∈ zs, u.2 = sortS (z.2 ++ [k]) := fun u hu => by
    have : u.2 ∈ ws.map (·.2) := List.mem_map.mpr ⟨u, hu, rfl⟩
    rw [hw] at this
    obtain ⟨z, hz, e⟩ := List.mem_map.mp this
    exact ⟨z, hz, e.symm⟩
  refine ⟨fun z hz => ?_, fun z hz x hx => ?_, fun z hz x hx => ?_, fun S hS => ?_⟩
  · rcases List.mem_append.mp hz with c | c
    · exact h.nd z c
    · obtain ⟨y, hy, e⟩ := hnew z c
      rw [e]; exact sortS_nodup (nd_snoc (h.nd y hy) (hold y hy))
  · rw [take_snoc hk]
    rcases List.mem_append.mp hz with c | c
    · rcases h.sub z c x hx with d | ⟨d, e⟩
      · exact .inl d
      · exact .inr ⟨.inl d, e⟩
    · obtain ⟨y, hy, e⟩ := hnew z c
      rw [e, mem_sortS] at hx
      rcases List.mem_append.mp hx with d | d
      · rcases h.sub y hy x d with d | ⟨d, e⟩
        · exact .inl d
        · exact .inr ⟨.inl d, e⟩
      · rw [List.mem_singleton.mp d]; exact .inr ⟨.inr rfl, h2⟩
  · rcases List.mem_append.mp hz with c | c
    · exact h.has z c x hx
    · obtain ⟨y, hy, e⟩ := hnew z c
      rw [e, mem_sortS]; exact List.mem_append_left _ (h.has y hy x hx)
  · obtain ⟨z, hz, e⟩ := h.all S hS
    cases hs : S k with
    | false =>
      refine ⟨z, List.mem_append_left _ hz, fun x => ?_⟩
      rw [e x, take_snoc hk]
      constructor
      · rintro (c | ⟨c, d⟩)
        · exact .inl c
        · exact .inr ⟨.inl c, d⟩
      · rintro (c | ⟨c | c, d⟩)
        · exact .inl c
        · exact .inr ⟨c, d⟩
        · subst c; rw [hs] at d; cases d
    | true =>
      have : sortS (z.2 ++ [k]) ∈ ws.map (·.2) := by rw [hw]; exact List.mem_map.mpr ⟨z, hz, rfl⟩
      obtain ⟨u, hu, e2⟩ := List.mem_map.mp this
      refine ⟨u, List.mem_append_right _ hu, fun x => ?_⟩
      rw [e2, mem_sortS, List.mem_append, e x, take_snoc hk, List.mem_singleton]
      constructor
      · rintro ((c | ⟨c, d⟩) | c)
        · exact .inl c
        · exact .inr ⟨.inl c, d⟩
        · subst c; exact .inr ⟨.inr rfl, hs⟩
      · rintro (c | ⟨c | c, d⟩)
        · exact .inl (.inl c)
        · exact .inl (.inr ⟨c, d⟩)
        · exact .inr c
end L2

set_option Elab.async false
set_option linter.all false
set_option maxRecDepth 100000
set_option maxHeartbeats 4000000
namespace L2
open PySem PySem.Spec PyProof.Rows
def innB (g : Str → Row) (least : Int) (zs : Sds) (x : Str) : Bool := zs.all fun z => decide (amtF g z.2 = least → x ∈ z.2)
def DueOk (ks os ts : List Str) (g : Str → Row) (least : Int) (inner : List Str) : Prop := ∃ zs : Sds, SidesOk ks os ts ks.length zs ∧ (∃ z ∈ zs, amtF g z.2 = least) ∧ (∀ z ∈ zs, least ≤ amtF g z.2) ∧ inner = (sortS ks).filter (innB g least zs)
/-! ### told the other way round -/
end L2

set_option Elab.async false
set_option linter.all false
set_option maxRecDepth 100000
set_option maxHeartbeats 4000000
namespace L2
open PySem PySem.Spec PyProof.Rows
structure EndsOk (x0 xl : Str) (ms : List Str) (i : Nat) (os ts : List Str) : Prop where
  no : os.Nodup
  o : ∀ x ∈ os, x = x0 ∨ x ∈ ms.take i
  t : ∀ x ∈ ts, x = xl ∨ x ∈ ms.take i
  dj : ∀ x ∈ os, x ∉ ts
  ol : os.length ≤ i + 1
  tl : ts.length ≤ i + 1
theorem EndsOk.first {x0 xl : Str} {ms : List Str} (nd : (x0 :: (ms ++ [xl])).Nodup) : EndsOk x0 xl ms 0 [x0] [xl] :=
  ⟨by simp, fun x hx => .inl (List.mem_singleton.mp hx), fun x hx => .inl (List.mem_singleton.mp hx), fun x hx hy => by
    rw [List.mem_singleton.mp hx] at hy
    rw [List.mem_singleton.mp hy] at nd
    exact (List.nodup_cons.mp nd).1 (by simp), Nat.le_refl _, Nat.le_refl _⟩
section
variable {x0 xl k : Str} {ms os ts : List Str} {i : Nat}
theorem EndsOk.fresh (nd : (x0 :: (ms ++ [xl])).Nodup) (hk : ms[i]? = some k) (h : EndsOk x0 xl ms i os ts) : k ∉ os ∧ k ∉ ts := by
  have hm := List.mem_of_getElem? hk
  obtain ⟨n1, n2⟩ := List.nodup_cons.mp nd
  obtain ⟨n3, _, n5⟩ := List.nodup_append.mp n2
  have nt := nodup_take n3 hk
  refine ⟨fun c => ?_, fun c => ?_⟩
  · rcases h.o k c with e | e
    · exact n1 (e ▸ List.mem_append_left _ hm)
    · exact nt e
  · rcases h.t k c with e | e
    · exact n5 k hm xl (by simp) e
    · exact nt e
theorem mem_take_up {x : Str} (h : x ∈ ms.take i) : x ∈ ms.take (i + 1) := by
  rw [List.take_add_one]; exact List.mem_append_left _ h
theorem mem_take_now (hk : ms[i]? = some k) : k ∈ ms.take (i + 1) := by
  rw [List.take_add_one, hk]; exact List.mem_append_right _ (by simp)
theorem EndsOk.one (nd : (x0 :: (ms ++ [xl])).Nodup) (hk : ms[i]? = some k) (h : EndsOk x0 xl ms i os ts) : EndsOk x0 xl ms (i + 1) (os ++ [k]) ts := by
  obtain ⟨f1, f2⟩ := h.fresh nd hk
  refine ⟨nd_snoc h.no f1, fun x hx => ?_, fun x hx => (h.t x hx).imp id mem_take_up, fun x hx => ?_, by rw [List.length_append]; exact Nat.succ_le_succ h.ol, Nat.le_succ_of_le h.tl⟩
  · rcases List.mem_append.mp hx with c | c
    · exact (h.o x c).imp id mem_take_up
    · rw [List.mem_singleton.mp c]; exact .inr (mem_take_now hk)
  · rcases List.mem_append.mp hx with c | c
    · exact h.dj x c
    · rw [List.mem_singleton.mp c]; exact f2
theorem EndsOk.other (nd : (x0 :: (ms ++ [xl])).Nodup) (hk : ms[i]? = some k) (h : EndsOk x0 xl ms i os ts) : EndsOk x0 xl ms (i + 1) os (ts ++ [k]) := by
  obtain ⟨f1, f2⟩ := h.fresh nd hk
  refine ⟨h.no, fun x hx => (h.o x hx).imp id mem_take_up, fun x hx => ?_, fun x hx hy => ?_, Nat.le_succ_of_le h.ol, by rw [List.length_append]; exact Nat.succ_le_succ h.tl⟩
  · rcases List.mem_append.mp hx with c | c
    · exact (h.t x c).imp id mem_take_up
    · rw [List.mem_singleton.mp c]; exact .inr (mem_take_now hk)
  · rcases List.mem_append.mp hy with c | c
    · exact h.dj x hx c
    · exact f1 (List.mem_singleton.mp c ▸ hx)
theorem EndsOk.inn (h : EndsOk x0 xl ms i os ts) : ∀ x ∈ os, x ∈ x0 :: (ms ++ [xl]) := fun x hx => by
  rcases h.o x hx with e | e
  · rw [e]; simp
  · exact List.mem_cons_of_mem _ (List.mem_append_left _ (List.mem_of_mem_take e))
end
end L2

set_option Elab.async false
set_option linter.all false
set_option maxRecDepth 100000
set_option maxHeartbeats 4000000
/-! what the flows' functions answer, told as functions (own work) -/
namespace L2
open PySem PySem.Spec PyProof.Rows
section
variable {α : Type}
def itN (f : α → α) : Nat → α → α
  | 0, a => a
  | n + 1, a => f (itN f n a)
theorem itN_fix {f : α → α} {n : Nat} {a : α} (h : f (itN f n a) = itN f n a) : ∀ d, itN f (n + d) a = itN f n a
  | 0 => rfl
  | d + 1 => by
    show f (itN f (n + d) a) = _
    rw [itN_fix h d]; exact h
theorem itN_fix' {f : α → α} {n m : Nat} {a : α} (h : f (itN f n a) = itN f n a) (hm : n ≤ m) : itN f m a = itN f n a := by
  obtain ⟨d, rfl⟩ := Nat.exists_eq_add_of_le hm
  exact itN_fix h d
theorem itN_one {f : α → α} {n m : Nat} {a : α} (h : f (itN f n a) = itN f n a) (h' : f (itN f m a) = itN f m a) : itN f n a = itN f m a := by
  rcases Nat.le_total n m with c | c
  · exact (itN_fix' h c).symm
  · exact itN_fix' h' c
end
/-! ### what is reached -/
def newB (r : Fl) (L : Ah) (x y : Str) : Bool := decide (0 < r x y) && !decide (y ∈ L.map (·.1))
def bfsStep (ks : List Str) (r : Fl) (L : Ah) (i : Nat) : Ah := match L[i]? with
  | none => L
  | some e => L ++ ((sortS ks).filter (newB r L e.1)).map fun y => (y, some e.1)
def bfsN (ks : List Str) (r : Fl) (os : List Str) : Nat → Ah
  | 0 => (sortS os).map fun x => (x, none)
  | i + 1 => bfsStep ks r (bfsN ks r os i) i
/-! ### a shortest way -/
def stepW (L : Ah) : List Str → List Str
  | [] => []
  | x :: w => match ahOf L x with
    | some (some y) => y :: x :: w
    | _ => x :: w
def shortF (ks : List Str) (r : Fl) (os ts : List Str) : List Str :=
  match ((bfsN ks r os 12).map (·.1)).filter (fun x => decide (x ∈ ts)) with
  | [] => []
  | x :: _ => itN (stepW (bfsN ks r os 12)) 12 [x]
/-! ### the least along a way -/
def steps (r : Fl) (w : List Str) : List Int := (w.zip (w.drop 1)).map fun p => r p.1 p.2
def leastF (r : Fl) (w : List Str) : Int := match steps r w with
  | [] => 0
  | a :: l => l.foldl min a
/-! ### all that goes is sent -/
def stepP (ks os ts : List Str) (s : Fl × Int) : Fl × Int := match shortF ks s.1 os ts with
  | [] => s
  | x :: w => (pushN s.1 (leastF s.1 (x :: w)) (x :: w) w.length, s.2 + leastF s.1 (x :: w))
end L2

set_option Elab.async false
set_option linter.all false
set_option maxRecDepth 100000
set_option maxHeartbeats 4000000
/-! routes out of what goes (own work) -/
namespace L2
open PySem PySem.Spec PyProof.Rows
/-- the steps of a way -/
def stL (w : List Str) : List (Str × Str) := w.zip (w.drop 1)
theorem stL_get {w : List Str} {i : Nat} {x y : Str} : (stL w)[i]? = some (x, y) ↔ w[i]? = some x ∧ w[i + 1]? = some y := by
  unfold stL
  rw [List.getElem?_zip_eq_some, List.getElem?_drop, Nat.add_comm]
theorem stL_len (w : List Str) : (stL w).length = w.length - 1 := by
  unfold stL
  rw [List.length_zip, List.length_drop]; omega
theorem stL_mem {w : List Str} {x y : Str} : (x, y) ∈ stL w ↔ ∃ i, w[i]? = some x ∧ w[i + 1]? = some y := by
  constructor
  · intro h
    obtain ⟨i, hi⟩ := List.getElem?_of_mem h
    exact ⟨i, stL_get.mp hi⟩
  · rintro ⟨i, h⟩
    exact List.mem_of_getElem? (stL_get.mpr h)
theorem stL_new {w : List Str} (nd : w.Nodup) {i : Nat} {x y : Str} (h : (stL w)[i]? = some (x, y)) : (x, y) ∉ (stL w).take i := fun m => by
  obtain ⟨j, hj⟩ := List.getElem?_of_mem m
  rw [List.getElem?_take] at hj
  by_cases c : j < i
  · rw [if_pos c] at hj
    have := nd_ix nd (stL_get.mp hj).1 (stL_get.mp h).1
    omega
  · rw [if_neg c] at hj; cases hj
def subI (D : Fl) (m : Int) (w : List Str) (i : Nat) : Fl := fun a b => if (a, b) ∈ (stL w).take i then D a b - m else D a b
theorem subI_succ {D : Fl} {m : Int} {w : List Str} (nd : w.Nodup) {i : Nat} {x y : Str} (h : (stL w)[i]? = some (x, y)) (a b : Str) : subI D m w (i + 1) a b = if a = x ∧ b = y then subI D m w i a b - m else subI D m w i a b := by
  unfold subI
  have hm : (a, b) ∈ (stL w).take (i + 1) ↔ (a, b) ∈ (stL w).take i ∨ (a = x ∧ b = y) := by
    rw [List.take_add_one, h, List.mem_append]
    simp
  by_cases e : a = x ∧ b = y
  · rw [if_pos (hm.mpr (.inr e)), if_pos e, if_neg (by rw [e.1, e.2]; exact stL_new nd h)]
  · rw [if_neg e]
    by_cases c : (a, b) ∈ (stL w).take i
    · rw [if_pos (hm.mpr (.inl c)), if_pos c]
    · rw [if_neg (fun z => (hm.mp z).elim c e), if_neg c]
theorem subI_anti {D : Fl} {m : Int} {w : List Str} (nd : w.Nodup) (a b : Str) : ∀ i, i + 1 ≤ w.length → subI D m w i a b - subI D m w i b a = (D a b - D b a) - pushN (fun _ _ => 0) (-m) w i a b
  | 0, _ => by
    unfold subI
    rw [List.take_zero, if_neg (by simp), if_neg (by simp)]
    show _ = _ - (0 : Int)
    omega
  | i + 1, hi => by
    have ih := subI_anti (D := D) (m := m) nd a b i (by omega)
    obtain ⟨x, hx⟩ : ∃ x, w[i]? = some x := ⟨_, List.getElem?_eq_getElem (by omega)⟩
    obtain ⟨y, hy⟩ : ∃ y, w[i + 1]? = some y := ⟨_, List.getElem?_eq_getElem (by omega)⟩
    have hne : x ≠ y := fun e => by
      subst e
      have := nd_ix nd hx hy
      omega
    have hs : (stL w)[i]? = some (x, y) := stL_get.mpr ⟨hx, hy⟩
    rw [pushN_succ hx hy, subI_succ nd hs, subI_succ nd hs]
    unfold pushF
    by_cases c1 : a = x ∧ b = y
    · have c2 : ¬ (b = x ∧ a = y) := fun z => hne (c1.1.symm.trans z.2)
      rw [if_pos c1, if_neg c2, if_pos c1]; omega
    · by_cases c2 : b = x ∧ a = y
      · rw [if_neg c1, if_pos c2, if_neg c1, if_pos ⟨c2.2, c2.1⟩]; omega
      · rw [if_neg c1, if_neg c2, if_neg c1, if_neg (fun z => c2 ⟨z.2, z.1⟩)]; omega
theorem subI_all {D : Fl} {m : Int} {w : List Str} {k : Nat} (h : w.length = k + 1) (a b : Str) : subI D m w k a b = D a b - (if (a, b) ∈ stL w then m else 0) := by
  unfold subI
  rw [List.take_of_length_le (by rw [stL_len]; omega)]
  by_cases c : (a, b) ∈ stL w
  · rw [if_pos c, if_pos c]
  · rw [if_neg c, if_neg c]; omega
/-- what goes: nothing stays on the way -/
structure Cs (ks : List Str) (one other : Str) (D : Fl) (lack : Int) : Prop where
  nn : ∀ x ∈ ks, ∀ y ∈ ks, 0 ≤ D x y
  cons : ∀ x ∈ ks, x ≠ one → x ≠ other → outF ks (fun a b => D a b - D b a) x = 0
  amt : outF ks (fun a b => D a b - D b a) one = lack
/-- a way that goes -/
structure Wy (ks : List Str) (one other : Str) (w : List Str) (k : Nat) : Prop where
  len : w.length = k + 1
  fst : w[0]? = some one
  lst : w[k]? = some other
  nd : w.Nodup
  mem : ∀ x ∈ w, x ∈ ks
theorem Cs.step {ks : List Str} {one other : Str} {D : Fl} {lack m : Int} {w : List Str} {k : Nat} (c : Cs ks one other D lack) (nk : ks.Nodup) (hne : one ≠ other) (y : Wy ks one other w k) (hm : 0 ≤ m) (hle : ∀ i a b, w[i]? = some a → w[i + 1]? = some b → m ≤ D a b) : Cs ks one other (subI D m w k) (lack - m) := by
  have way : WayOk ks (fun _ _ => 0) (-m) w := ⟨y.mem, y.nd, fun _ _ _ _ _ => by show -m ≤ 0; omega⟩
  have out : ∀ v, outF ks (fun a b => subI D m w k a b - subI D m w k b a) v = outF ks (fun a b => D a b - D b a) v + (if v = one then -m else 0) - (if v = other then -m else 0) := fun v => by
    have h := way.out (c := fun a b => D a b - D b a) nk y.fst v k other y.lst
    have e1 : (fun a b => subI D m w k a b - subI D m w k b a) = fun a b => (fun a b => D a b - D b a) a b - pushN (fun _ _ => 0) (-m) w k a b := by
      funext a b
      exact subI_anti y.nd a b k (by rw [y.len]; omega)
    have e2 : (fun a b => (fun a b => D a b - D b a) a b - (fun _ _ => (0 : Int)) a b) = fun a b => D a b - D b a := by
      funext a b
      show (D a b - D b a) - (0 : Int) = D a b - D b a
      omega
    rw [e1, h, e2]
  refine ⟨fun a ha b hb => ?_, fun x hx h1 h2 => ?_, ?_⟩
  · rw [subI_all y.len]
    have := c.nn a ha b hb
    by_cases z : (a, b) ∈ stL w
    · rw [if_pos z]
      obtain ⟨i, h1, h2⟩ := stL_mem.mp z
      have := hle i a b h1 h2
      omega
    · rw [if_neg z]; omega
  · rw [out, c.cons x hx h1 h2, if_neg h1, if_neg h2]; omega
  · rw [out, c.amt, if_pos rfl, if_neg hne]; omega
/-! ### how many arcs something goes over -/
def posN (ks : List Str) (D : Fl) : Int := sumL ks fun x => sumL ks fun y => if 0 < D x y then 1 else 0
theorem posN_step {ks : List Str} {D : Fl} {m : Int} {w : List Str} {k : Nat} (nk : ks.Nodup) (hl : w.length = k + 1) (hm : 1 ≤ m) {x1 y1 : Str} (h1 : x1 ∈ ks) (h2 : y1 ∈ ks) (hs : (x1, y1) ∈ stL w) (he : m = D x1 y1) : posN ks (subI D m w k) + 1 ≤ posN ks D := by
  have one : sumL ks (fun x => sumL ks fun y => if x = x1 ∧ y = y1 then (1 : Int) else 0) = 1 := by
    have : ∀ x ∈ ks, sumL ks (fun y => if x = x1 ∧ y = y1 then (1 : Int) else 0) = if x = x1 then 1 else 0 := fun x _ => by
      by_cases e : x = x1
      · rw [if_pos e]
        rw [sumL_congr (h := fun y => if y = y1 then (1 : Int) else 0) fun y _ => by
          by_cases z : y = y1
          · rw [if_pos ⟨e, z⟩, if_pos z]
          · rw [if_neg (fun q => z q.2), if_neg z]]
        exact sumL_one nk h2 1
      · rw [if_neg e]
        exact sumL_zero fun y _ => if_neg fun q => e q.1
    rw [sumL_congr this, sumL_one nk h1]
  have key : posN ks (subI D m w k) + sumL ks (fun x => sumL ks fun y => if x = x1 ∧ y = y1 then (1 : Int) else 0) ≤ posN ks D := ?_
  · rw [one] at key; exact key
  unfold posN
  rw [← sumL_add]
  refine sumL_le fun x _ => ?_
  rw [← sumL_add]
  refine sumL_le fun y _ => ?_
  rw [subI_all hl]
  by_cases c : x = x1 ∧ y = y1
  · obtain ⟨rfl, rfl⟩ := c
    rw [if_pos hs, if_neg (show ¬ 0 < D x y - m by omega), if_pos (show x = x ∧ y = y from ⟨rfl, rfl⟩), if_pos (show 0 < D x y by omega)]; decide
  · rw [if_neg c]
    by_cases z : (x, y) ∈ stL w
    · rw [if_pos z]
      by_cases p : 0 < D x y - m
      · rw [if_pos p, if_pos (by omega)]; decide
      · rw [if_neg p]
        split <;> decide
    · rw [if_neg z, Int.sub_zero]; omega
/-! ### routes -/
abbrev Rts := List (Int × List Str)
def useA (R : Rts) (a b : Str) : Int := sumL R fun e => if (a, b) ∈ stL e.2 then e.1 else 0
def stepR (ks : List Str) (one other : Str) (s : Fl × Int × Rts) : Fl × Int × Rts :=
  if 0 < s.2.1 then (subI s.1 (leastF s.1 (shortF ks s.1 [one] [other])) (shortF ks s.1 [one] [other]) ((shortF ks s.1 [one] [other]).length - 1), s.2.1 - leastF s.1 (shortF ks s.1 [one] [other]), s.2.2 ++ [(leastF s.1 (shortF ks s.1 [one] [other]), shortF ks s.1 [one] [other])]) else s
structure RInv (ks : List Str) (one other : Str) (D0 : Fl) (amount : Int) (D : Fl) (lack : Int) (R : Rts) : Prop where
  cs : Cs ks one other D lack
  use : ∀ a b, D a b = D0 a b - useA R a b
  way : ∀ e ∈ R, 1 ≤ e.1 ∧ (∃ k, 1 ≤ k ∧ Wy ks one other e.2 k) ∧ ∀ a b, (a, b) ∈ stL e.2 → 0 < D0 a b
  cnt : (R.length : Int) + posN ks D ≤ posN ks D0
  sum : (sumL R fun e => e.1) + lack = amount
  bk : ∀ x ∈ ks, D x one = 0
  lk : 0 ≤ lack
theorem Cs.out {ks : List Str} {one other : Str} {D : Fl} {lack : Int} (c : Cs ks one other D lack) (bk : ∀ x ∈ ks, D x one = 0) : lack = sumL ks fun y => D one y := by
  rw [← c.amt]
  exact sumL_congr fun y hy => by
    show D one y - D y one = D one y
    rw [bk y hy]; omega
theorem sumL_ge {α : Type} {l : List α} {g : α → Int} (h : ∀ a ∈ l, 0 ≤ g a) {x : α} (hx : x ∈ l) : g x ≤ sumL l g := by
  induction l with
  | nil => simp at hx
  | cons a l ih =>
    rw [sumL_cons]
    have h1 := h a (by simp)
    have h2 := sumL_nonneg (l := l) (g := g) fun b hb => h b (List.mem_cons_of_mem _ hb)
    rcases List.mem_cons.mp hx with e | e
    · rw [e]; omega
    · have := ih (fun b hb => h b (List.mem_cons_of_mem _ hb)) e
      omega
theorem RInv.start {ks : List Str} {one other : Str} {D0 : Fl} {amount : Int} (c : Cs ks one other D0 amount) (h1 : one ∈ ks) (bk : ∀ x ∈ ks, D0 x one = 0) : RInv ks one other D0 amount D0 amount [] :=
  ⟨c, fun a b => by show _ = _ - (0 : Int); omega, fun _ h => absurd h (by simp), by show ((0 : Nat) : Int) + _ ≤ _; omega, by show (0 : Int) + _ = _; omega, bk, by rw [c.out bk]; exact sumL_nonneg fun y hy => c.nn one h1 y hy⟩
theorem sumL_app {α : Type} (l m : List α) (g : α → Int) : sumL (l ++ m) g = sumL l g + sumL m g := by simp [sumL]
theorem RInv.step {ks : List Str} {one other : Str} {D0 D : Fl} {amount lack m : Int} {R : Rts} {w : List Str} {k : Nat} (r : RInv ks one other D0 amount D lack R) (nk : ks.Nodup) (hne : one ≠ other) (y : Wy ks one other w k) (hm : 1 ≤ m) (hle : ∀ i a b, w[i]? = some a → w[i + 1]? = some b → m ≤ D a b) (hex : ∃ i a b, w[i]? = some a ∧ w[i + 1]? = some b ∧ m = D a b) (un : ∀ a b, 0 ≤ useA R a b) : RInv ks one other D0 amount (subI D m w k) (lack - m) (R ++ [(m, w)]) := by
  obtain ⟨i, x1, y1, g1, g2, ge⟩ := hex
  have nob : ∀ x, (x, one) ∉ stL w := fun x hm => by
    obtain ⟨j, _, h2⟩ := stL_mem.mp hm
    have := nd_ix y.nd h2 y.fst
    omega
  have hk1 : 1 ≤ k := by
    rcases Nat.eq_zero_or_pos k with z | z
    · have := y.lst
      rw [z, y.fst] at this
      cases this
      exact absurd rfl hne
    · exact z
  have o1 : one ∈ ks := y.mem _ (List.mem_of_getElem? y.fst)
  have mle : m ≤ lack := by
    obtain ⟨u, hu⟩ : ∃ u, w[0 + 1]? = some u := ⟨_, List.getElem?_eq_getElem (by rw [y.len]; omega)⟩
    have a1 := hle 0 one u y.fst hu
    have a2 := sumL_ge (l := ks) (g := fun y => D one y) (fun b hb => r.cs.nn one o1 b hb) (y.mem _ (List.mem_of_getElem? hu))
    have a3 := r.cs.out r.bk
    have a4 : (fun y => D one y) u = D one u := rfl
    omega
  refine ⟨r.cs.step nk hne y (by omega) hle, fun a b => ?_, fun e he => ?_, ?_, ?_, fun x hx => ?_, by omega⟩
  · rw [subI_all y.len, r.use a b]
    unfold useA
    rw [sumL_app]
    show _ = _ - (_ + sumL [(m, w)] _)
    rw [sumL_cons, sumL_nil]
    show _ = _ - (_ + ((if (a, b) ∈ stL w then m else 0) + 0))
    omega
  · rcases List.mem_append.mp he with c | c
    · exact r.way e c
    · rw [List.mem_singleton.mp c]
      refine ⟨hm, ⟨k, ?_, y⟩, fun a b hs => ?_⟩
      · rcases Nat.eq_zero_or_pos k with z | z
        · have := y.lst
          rw [z, y.fst] at this
          cases this
          exact absurd rfl hne
        · exact z
      · obtain ⟨j, h1, h2⟩ := stL_mem.mp hs
        have a1 := hle j a b h1 h2
        have a2 := r.use a b
        have a3 := un a b
        omega
  · have := posN_step nk y.len hm (y.mem _ (List.mem_of_getElem? g1)) (y.mem _ (List.mem_of_getElem? g2)) (stL_mem.mpr ⟨i, g1, g2⟩) ge
    have a2 := r.cnt
    rw [List.length_append]
    show ((R.length + 1 : Nat) : Int) + _ ≤ _
    omega
  · have := r.sum
    rw [sumL_app]
    show _ + sumL [(m, w)] _ + _ = _
    rw [sumL_cons, sumL_nil]
    show _ + (m + 0) + (lack - m) = _
    omega
  · rw [subI_all y.len, if_neg (nob x), r.bk x hx]; rfl
theorem RInv.un {ks : List Str} {one other : Str} {D0 D : Fl} {amount lack : Int} {R : Rts} (r : RInv ks one other D0 amount D lack R) (a b : Str) : 0 ≤ useA R a b := sumL_nonneg fun e he => by
  have := (r.way e he).1
  split
  · omega
  · exact Int.le_refl _
end L2

set_option Elab.async false
set_option linter.all false
set_option maxRecDepth 100000
set_option maxHeartbeats 4000000
/-! what goes over each line, and the routes of a net (own work) -/
namespace L2
open PySem PySem.Spec PyProof.Rows
def phiR (f : Str → Row) (r : Fl) (x : Str) : Row := (f x).map fun e => (e.1, if e.2 - r x e.1 > 0 then e.2 - r x e.1 else 0)
theorem look_phi (f : Str → Row) (r : Fl) (x y : Str) : look (phiR f r x) y = (look (f x) y).map fun v => if v - r x y > 0 then v - r x y else 0 := by
  unfold phiR
  generalize f x = l
  induction l with
  | nil => rfl
  | cons e l ih =>
    obtain ⟨k, v⟩ := e
    rw [List.map_cons]
    unfold look at ih ⊢
    rw [List.find?_cons, List.find?_cons]
    by_cases c : k = y
    · subst c; simp
    · have : decide (k = y) = false := by simpa using c
      simp only [this]
      exact ih
theorem rc_phi_some {f : Str → Row} {r : Fl} {x y : Str} {v : Int} (h : look (f x) y = some v) : rc (phiR f r) x y = if v - r x y > 0 then v - r x y else 0 := by
  unfold rc
  rw [look_phi, h]; rfl
theorem rc_phi_none {f : Str → Row} {r : Fl} {x y : Str} (h : look (f x) y = none) : rc (phiR f r) x y = 0 := by
  unfold rc
  rw [look_phi, h]; rfl
section
variable {ks : List Str} {f : Str → Row} {one other : Str} {r : Fl} {amount : Int}
theorem phi_anti (fl : Flow ks (rc f) (inB [one]) (inB [other]) r amount) (sy : ∀ x ∈ ks, ∀ y ∈ ks, (look (f x) y).isSome = (look (f y) x).isSome) {x y : Str} (hx : x ∈ ks) (hy : y ∈ ks) : rc (phiR f r) x y - rc (phiR f r) y x = rc f x y - r x y := by
  have an := fl.anti x hx y hy
  have n1 := fl.nn x hx y hy
  have n2 := fl.nn y hy x hx
  have s := sy x hx y hy
  cases h1 : look (f x) y with
  | none =>
    cases h2 : look (f y) x with
    | some v => rw [h1, h2] at s; cases s
    | none =>
      have e1 : rc f x y = 0 := by unfold rc; rw [h1]; rfl
      have e2 : rc f y x = 0 := by unfold rc; rw [h2]; rfl
      rw [e1, e2] at an
      rw [rc_phi_none h1, rc_phi_none h2, e1]
      omega
  | some v =>
    cases h2 : look (f y) x with
    | none => rw [h1, h2] at s; cases s
    | some v' =>
      have e1 : rc f x y = v := by unfold rc; rw [h1]; rfl
      have e2 : rc f y x = v' := by unfold rc; rw [h2]; rfl
      rw [e1, e2] at an
      rw [rc_phi_some h1, rc_phi_some h2, e1]
      split <;> split <;> omega
theorem phi_nn (x y : Str) : 0 ≤ rc (phiR f r) x y := by
  cases h1 : look (f x) y with
  | none => rw [rc_phi_none h1]; exact Int.le_refl _
  | some v =>
    rw [rc_phi_some h1]
    split <;> omega
theorem Cs.start (nk : ks.Nodup) (h1 : one ∈ ks) (fl : Flow ks (rc f) (inB [one]) (inB [other]) r amount) (sy : ∀ x ∈ ks, ∀ y ∈ ks, (look (f x) y).isSome = (look (f y) x).isSome) : Cs ks one other (rc (phiR f r)) amount := by
  have out : ∀ x ∈ ks, outF ks (fun a b => rc (phiR f r) a b - rc (phiR f r) b a) x = outF ks (fun x y => rc f x y - r x y) x := fun x hx => sumL_congr fun y hy => phi_anti fl sy hx hy
  refine ⟨fun x _ y _ => phi_nn x y, fun x hx h1 h2 => ?_, ?_⟩
  · rw [out x hx]
    refine fl.cons x hx ?_ ?_
    · simpa [inB] using h1
    · simpa [inB] using h2
  · rw [out one h1, fl.amt]
    have : ∀ x ∈ ks, (if inB [one] x = true then outF ks (fun x y => rc f x y - r x y) x else 0) = if x = one then outF ks (fun x y => rc f x y - r x y) one else 0 := fun x _ => by
      by_cases e : x = one
      · rw [if_pos e, if_pos (by simp [inB, e]), e]
      · rw [if_neg e, if_neg (by simp [inB, e])]
    rw [sumL_congr this, sumL_one nk h1]
end
/-! ### routes in the heap -/
abbrev Rz := List (Addr × Addr × Int × List Str)
def rtV (zs : Rz) : List V := zs.map fun z => V.ref z.1
def rtR (zs : Rz) : Rts := zs.map fun z => z.2.2
structure RtAt (H0 H : Hp) (p : Addr) (zs : Rz) : Prop where
  out : H p = some (.lst (rtV zs))
  tp : ∀ z ∈ zs, H z.1 = some (.tup [.int z.2.2.1, .ref z.2.1])
  ws : ∀ z ∈ zs, H z.2.1 = some (.lst (z.2.2.2.map V.str))
  np : H0 p = none
  nw : ∀ z ∈ zs, H0 z.1 = none ∧ H0 z.2.1 = none
  ne : ∀ z ∈ zs, z.2.1 ≠ p
theorem RtAt.same {H0 H H' : Hp} {p : Addr} {zs : Rz} (r : RtAt H0 H p zs) (s : Same H H') : RtAt H0 H' p zs :=
  ⟨s _ _ r.out, fun z hz => s _ _ (r.tp z hz), fun z hz => s _ _ (r.ws z hz), r.np, r.nw, r.ne⟩
/-- what routes_between answers: just one thing -/
def RoutesOf (ks : List Str) (f : Str → Row) (one other : Str) (amount : Int) (R : Rts) : Prop :=
  ∃ (r D : Fl) (lack : Int), (∃ n, (r, amount) = itN (stepP ks [one] [other]) n (rc f, 0)) ∧ shortF ks r [one] [other] = [] ∧ Flow ks (rc f) (inB [one]) (inB [other]) r amount ∧ (∃ L, Bfs ks r [one] L ∧ Done ks r L L.length ∧ other ∉ L.map (·.1)) ∧
    (∃ n, (D, lack, R) = itN (stepR ks one other) n (rc (phiR f r), amount, [])) ∧ ¬ 0 < lack ∧ RInv ks one other (rc (phiR f r)) amount D lack R
theorem RoutesOf.one {ks : List Str} {f : Str → Row} {one other : Str} {a a' : Int} {R R' : Rts} (h : RoutesOf ks f one other a R) (h' : RoutesOf ks f one other a' R') : a = a' ∧ R = R' := by
  obtain ⟨r, D, l, ⟨n, e⟩, hs, _, _, ⟨m, g⟩, hl, _⟩ := h
  obtain ⟨r', D', l', ⟨n', e'⟩, hs', _, _, ⟨m', g'⟩, hl', _⟩ := h'
  have fx : ∀ {r : Fl} {a : Int}, shortF ks r [one] [other] = [] → stepP ks [one] [other] (r, a) = (r, a) := fun {r a} h => by
    unfold stepP
    show (match shortF ks r [one] [other] with | [] => _ | x :: w => _) = _
    rw [h]
  have k1 := itN_one (f := stepP ks [one] [other]) (n := n) (m := n') (a := (rc f, 0)) (by rw [← e]; exact fx hs) (by rw [← e']; exact fx hs')
  rw [← e, ← e'] at k1
  cases k1
  have fy : ∀ {D : Fl} {l : Int} {R : Rts}, ¬ 0 < l → stepR ks one other (D, l, R) = (D, l, R) := fun {D l R} h => by
    unfold stepR
    rw [if_neg h]
  have k2 := itN_one (f := stepR ks one other) (n := m) (m := m') (a := (rc (phiR f r), a, [])) (by rw [← g]; exact fy hl) (by rw [← g']; exact fy hl')
  rw [← g, ← g'] at k2
  cases k2
  exact ⟨rfl, rfl⟩
end L2

set_option Elab.async false
set_option linter.all false
set_option maxRecDepth 100000
set_option maxHeartbeats 4000000
/-! rule: how many things a set of unlike texts has (own work) -/
namespace L2
open PySem PySem.Spec PyProof.Rows PySem.SeqAt
section
variable {prog : Program} {w : World} {A : Around} {R : Result → Shared → Prop} {I : Addr} {fp wr : List Addr} {G : Array GenState → Array GenState → Prop} {n : Nat} {P : Nat → Value → Prop} {St : Nat → Shared → Prop}
/-- the set of the first i texts, each unlike those before it -/
def SetI (prog : Program) (w : World) (h : Heap) (S : Addr) (ss : List Str) (i : Nat) : Prop := h.SetOf (strKind prog w) S (fun k => decide (k ∈ ss.take i)) i
end
section
variable {prog : Program} {w : World} {A : Around} {E : Value → Shared → Prop} {s : Shared}
def setObj (led : Bool) : Obj := { cls := .type "set", dict := none, data := .set #[] 0 (.fresh 0 0 led) }
end
def tLenSet (K : PySem.W.Frag) (ta : TA) : TE := fun σ H Q => ta σ H fun vs H1 => ∃ (l : Addr) (ss : List Str), vs = [.ref l] ∧ SqL K H1 l (ss.map V.str) ∧ ss.Nodup ∧ ss.length ≤ 100 ∧ Q (.int ss.length) H1
section
variable {X : Cx}
end
end L2

set_option Elab.async false
set_option linter.all false
set_option maxRecDepth 100000
set_option maxHeartbeats 4000000
/-! rule: [.. for v in d.values()] (own work) -/
namespace L2
open PySem PySem.Spec PyProof.Rows PySem.SeqAt
def iVals (tl : TE) : TI := fun σ H R => tl σ H fun x H1 => ∃ a kvs, x = .ref a ∧ Rd H1 a (.dK kvs) ∧ ∀ o H2, Fzn a o kvs H1 H2 → R (Itv a o kvs) H2
section
variable {X : Cx} {tg : Expr}
end
end L2

set_option Elab.async false
set_option linter.all false
set_option maxRecDepth 100000
set_option maxHeartbeats 4000000
/-! rule: min and max of two texts (own work) -/
namespace L2
open PySem PySem.Spec PyProof.Rows PySem.SeqAt
section
variable {prog : Program} {w : World} {A : Around} {E : Value → Shared → Prop} {s : Shared} {P : Nat → Value → Prop}
def two (x y : Str) (i : Nat) : Str := if i = 0 then x else y
end
section
variable {X : Cx}
end
end L2

set_option Elab.async false
set_option linter.all false
set_option maxRecDepth 100000
set_option maxHeartbeats 4000000
/-! what k12's law asks of routes and sides (own work) -/
namespace L2
open PySem PySem.Spec PyProof.Rows
section
variable {ks : List Str} {f : Str → Row} {one other : Str} {r : Fl} {amount : Int}
theorem leave_not {c : Fl} (sy : ∀ x ∈ ks, ∀ y ∈ ks, c x y = c y x) (S : Str → Bool) : leave ks c (fun x => !S x) = leave ks c S := by
  unfold leave
  rw [sumL_swap]
  refine sumL_congr fun x hx => sumL_congr fun y hy => ?_
  rw [sy y hy x hx]
  by_cases c1 : S x = true ∧ S y = false
  · rw [if_pos c1, if_pos (show (!S y) = true ∧ (!S x) = false by rw [c1.1, c1.2]; exact ⟨rfl, rfl⟩)]
  · rw [if_neg c1, if_neg]
    rintro ⟨d1, d2⟩
    have d1 : (!S y) = true := d1
    have d2 : (!S x) = false := d2
    refine c1 ⟨?_, ?_⟩
    · cases e : S x with
      | true => rfl
      | false => rw [e] at d2; cases d2
    · cases e : S y with
      | false => rfl
      | true => rw [e] at d1; cases d1
theorem LeastS.alike {c : Fl} {os ts : List Str} {a a' : Int} {R R' : List Str} (h : LeastS ks c os ts a R) (h' : LeastS ks c os ts a' R') : a = a' := by
  have h1 := h.least _ h'.side
  have h2 := h'.least _ h.side
  rw [h'.eq] at h1
  rw [h.eq] at h2
  omega
theorem LeastS.turn {c : Fl} {a a' : Int} {R R' : List Str} (sy : ∀ x ∈ ks, ∀ y ∈ ks, c x y = c y x) (h : LeastS ks c [one] [other] a R) (h' : LeastS ks c [other] [one] a' R') : a = a' := by
  have tn : ∀ {o t : Str} {S : Str → Bool}, Side ks (inB [o]) (inB [t]) S → Side ks (inB [t]) (inB [o]) (fun x => !S x) := fun s => ⟨fun x hx hh => by rw [s.lacks x hx hh]; rfl, fun x hx hh => by rw [s.has x hx hh]; rfl⟩
  have h1 := h.least _ (tn h'.side)
  have h2 := h'.least _ (tn h.side)
  rw [leave_not sy, h'.eq] at h1
  rw [leave_not sy, h.eq] at h2
  omega
theorem RoutesOf.least {R : Rts} (h1 : one ∈ ks) (hne : one ≠ other) (h : RoutesOf ks f one other amount R) : ∃ R', LeastS ks (rc f) [one] [other] amount R' := by
  obtain ⟨r, D, l, _, _, fl, ⟨L, b, d, n⟩, _⟩ := h
  exact ⟨_, least_of (by simpa using h1) fl b d (by simpa using n) b d⟩
end
end L2

set_option Elab.async false
set_option linter.all false
set_option maxRecDepth 100000
set_option maxHeartbeats 4000000
/-! WALKS over dicts whose keys are tuples (own work) -/
namespace L2
open PySem PySem.Spec PyProof.Rows
/-! ### the keys of a dict, by its entries alone -/
section
variable {P : Program} {w : World} {A : Around} {E : Value → Shared → Prop} {s : Shared}
/-- a dict with these entries -/
def DRaw (h : Heap) (D : Addr) (o : Obj) (es : Array DictEntry) (ep : Nat) : Prop := h.get? D = some o ∧ o.ExactDict ∧ o.data = .dict es ep
end
section
variable {X : Cx} {pins : List (Addr × Obj)} {σ : St} {H : Hp} {s : Shared} {a : Addr} {kvs : List (List Key × V)}
end
/-- the keys of the dict at a, which is held fast -/
def ItdT (a : Addr) (o : Obj) (kvs : List (List Key × V)) : It :=
  ⟨fun i H => H a = some (.frz o (.dT kvs)) ∧ i < kvs.length, fun i H x H' => H' = H ∧ ∃ k v b, kvs[i]? = some (k, v) ∧ x = .ref b ∧ H b = some (.tup (k.map kV)), fun i H => H a = some (.frz o (.dT kvs)) ∧ kvs.length ≤ i⟩
/-- H2 is H1 with the dict at a held fast -/
def FznT (a : Addr) (o : Obj) (kvs : List (List Key × V)) (H1 H2 : Hp) : Prop := H2 a = some (.frz o (.dT kvs)) ∧ (H2 = H1 ∨ (H1 a = some (.dT kvs) ∧ H2 = upd H1 a (.frz o (.dT kvs))))
section
variable {X : Cx} {tg : Expr}
/-- what an end must give so that the dict, let go, is as wished -/
def ThwT (a : Addr) (o : Obj) (kvs : List (List Key × V)) (H1 H H' : Hp) : Prop := (H1 a = some (.dT kvs) ∧ H' = upd H a (.dT kvs)) ∨ (H1 a ≠ some (.dT kvs) ∧ H' = H)
def thawET (a : Addr) (o : Obj) (kvs : List (List Key × V)) (H1 : Hp) (D : Ends) : Ends where
  nx := fun σ H => H a = some (.frz o (.dT kvs)) ∧ ∀ H', ThwT a o kvs H1 H H' → D.nx σ H'
  rt := fun v H => H a = some (.frz o (.dT kvs)) ∧ ∀ H', ThwT a o kvs H1 H H' → D.rt v H'
  bk := fun _ _ => False
  ct := fun _ _ => False
/-- for k in d -/
def tForDT (te : TE) (g : TG) (tb : TS) : TS := fun D σ H => te σ H fun x H1 => ∃ a kvs, x = .ref a ∧ Rd H1 a (.dT kvs) ∧ ∀ o H2, FznT a o kvs H1 H2 → LoopVC (ItdT a o kvs) g tb (thawET a o kvs H1 D) σ H2

/-- all but the dict at a, which is held fast, is as in H1 -/
structure FsT (o : Obj) (a : Addr) (kvs : List (List Key × V)) (H1 H : Hp) : Prop where
  rest : ∀ b ob, b ≠ a → H1 b = some ob → H b = some ob
  held : H a = some (.frz o (.dT kvs))
theorem FsT.of {o : Obj} {a : Addr} {kvs : List (List Key × V)} {H1 H2 : Hp} (f : FznT a o kvs H1 H2) : FsT o a kvs H1 H2 := by
  obtain ⟨h, e | ⟨e1, e2⟩⟩ := f
  · subst e; exact ⟨fun _ _ _ q => q, h⟩
  · subst e2; exact ⟨fun b ob n q => by rw [upd_ne n]; exact q, h⟩
theorem FsT.same {o : Obj} {a : Addr} {kvs : List (List Key × V)} {H1 H H' : Hp} (f : FsT o a kvs H1 H) (e : Same H H') : FsT o a kvs H1 H' := ⟨fun b ob n q => e _ _ (f.rest b ob n q), e _ _ f.held⟩
theorem FsT.upd {o : Obj} {a l : Addr} {u : HO} {kvs : List (List Key × V)} {H1 H : Hp} (f : FsT o a kvs H1 H) (h1 : H1 l = none) (h2 : l ≠ a) : FsT o a kvs H1 (L2.upd H l u) :=
  ⟨fun b ob n q => by rw [upd_ne (ne_of_none q h1)]; exact f.rest b ob n q, by rw [upd_ne h2.symm]; exact f.held⟩
theorem FsT.thaw {o : Obj} {a : Addr} {kvs : List (List Key × V)} {H1 H H' : Hp} (f : FsT o a kvs H1 H) (hr : Rd H1 a (.dT kvs)) (fz : ∃ H2, FznT a o kvs H1 H2) (t : ThwT a o kvs H1 H H') : Same H1 H' ∧ ∀ b, b ≠ a → H' b = H b := by
  rcases t with ⟨e, rfl⟩ | ⟨e, rfl⟩
  · refine ⟨fun b ob q => ?_, fun b n => upd_ne n⟩
    by_cases hb : b = a
    · subst hb; rw [upd_same]; rw [e] at q; exact q
    · rw [upd_ne hb]; exact f.rest b ob hb q
  · refine ⟨fun b ob q => ?_, fun _ _ => rfl⟩
    by_cases hb : b = a
    · subst hb
      obtain ⟨H2, h2, c | ⟨c, _⟩⟩ := fz
      · subst c; rw [h2] at q; rw [← q]; exact f.held
      · exact absurd c e
    · exact f.rest b ob hb q
end
end L2

set_option Elab.async false
set_option linter.all false
set_option maxRecDepth 100000
set_option maxHeartbeats 4000000
/-! what each line carries, in a dict with pairs as keys (own work) -/
namespace L2
open PySem PySem.Spec PyProof.Rows
def lineK (x y : Str) : List Key := [Sum.inr x, Sum.inr y]
theorem lineK_inj {x y a b : Str} (h : lineK x y = lineK a b) : x = a ∧ y = b := by
  unfold lineK at h
  injection h with h1 h2
  injection h2 with h2 _
  exact ⟨Sum.inr.inj h1, Sum.inr.inj h2⟩
theorem mem_putK {κ : Type} [DecidableEq κ] {kvs : List (κ × V)} {k : κ} {v : V} {p : κ × V} (h : p ∈ putK kvs k v) : p = (k, v) ∨ (p ∈ kvs ∧ p.1 ≠ k) := by
  unfold putK at h
  split at h
  · obtain ⟨q, hq, e⟩ := List.mem_map.mp h
    by_cases c : q.1 = k
    · rw [if_pos c] at e; exact .inl (by rw [← e, c])
    · rw [if_neg c] at e; subst e; exact .inr ⟨hq, c⟩
  · rename_i hn
    rcases List.mem_append.mp h with c | c
    · refine .inr ⟨c, fun e => hn ?_⟩
      exact List.any_eq_true.mpr ⟨p, c, by simp [e]⟩
    · exact .inl (List.mem_singleton.mp c)
structure UD (kvs : List (List Key × V)) (U : Fl) (ok : Str → Str → Prop) : Prop where
  ent : ∀ p ∈ kvs, ∃ x y, p = (lineK x y, V.int (U x y)) ∧ ok x y ∧ cs x < cs y
  get : ∀ x y, cs x < cs y → valV kvs (lineK x y) = some (.int (U x y)) ∨ (valV kvs (lineK x y) = none ∧ U x y = 0)
theorem UD.nil {U : Fl} {ok : Str → Str → Prop} (h : ∀ x y, U x y = 0) : UD [] U ok := ⟨fun _ h => absurd h (by simp), fun x y _ => .inr ⟨rfl, h x y⟩⟩
theorem UD.congr {kvs : List (List Key × V)} {U U' : Fl} {ok : Str → Str → Prop} (u : UD kvs U ok) (h : ∀ x y, U' x y = U x y) : UD kvs U' ok := by
  have e : U' = U := funext fun x => funext fun y => h x y
  rw [e]; exact u
theorem UD.put {kvs : List (List Key × V)} {U U' : Fl} {ok : Str → Str → Prop} (u : UD kvs U ok) {lo hi : Str} {m : Int} (hl : cs lo < cs hi) (ho : ok lo hi) (h1 : U' lo hi = U lo hi + m) (h2 : ∀ x y, cs x < cs y → ¬ (x = lo ∧ y = hi) → U' x y = U x y) :
    UD (putK kvs (lineK lo hi) (.int (U lo hi + m))) U' ok := by
  refine ⟨fun p hp => ?_, fun x y hxy => ?_⟩
  · rcases mem_putK hp with e | ⟨hp, ne⟩
    · exact ⟨lo, hi, by rw [e, h1], ho, hl⟩
    · obtain ⟨x, y, e, o, l⟩ := u.ent p hp
      subst e
      refine ⟨x, y, ?_, o, l⟩
      rw [h2 x y l fun c => ne (by rw [c.1, c.2])]
  · rw [valV_put]
    by_cases c : x = lo ∧ y = hi
    · rw [if_pos (by rw [c.1, c.2]), c.1, c.2, h1]; exact .inl rfl
    · rw [if_neg fun e => c (lineK_inj e), h2 x y hxy c]
      exact u.get x y hxy
/-- what a route has used behind its first i steps -/
def stepU (m : Int) (w : List Str) (i : Nat) : Fl := fun x y => (if (x, y) ∈ (stL w).take i then m else 0) + (if (y, x) ∈ (stL w).take i then m else 0)
end L2

set_option Elab.async false
set_option linter.all false
set_option maxRecDepth 100000
set_option maxHeartbeats 4000000
/-! rules: sum of a list of numbers, list(x) in a comprehension (own work) -/
namespace L2
open PySem PySem.Spec PyProof.Rows
section
variable {X : Cx}
/-- a dict that was held fast is let go -/
def tThaw (te : TE) : TE := fun σ H Q => te σ H fun x H1 => ∃ a o kvs, H1 a = some (.frz o (.dK kvs)) ∧ H a = some (.dK kvs) ∧ Q x (upd H1 a (.dK kvs))
end
end L2

set_option Elab.async false
set_option linter.all false
set_option maxRecDepth 100000
set_option maxHeartbeats 4000000
/-! rules: lists of texts compared; n & 1 (own work) -/
namespace L2
open PySem PySem.Spec PyProof.Rows PySem.SeqAt
section
variable {X : Cx} {pins : List (Addr × Obj)} {σ : St} {H : Hp} {s : Shared}
theorem vstr_at {xs : List Str} {its : List Value} (r : Vals (xs.map V.str) its) {j : Nat} {v : Value} (h : its[j]? = some v) : ∃ x t, xs[j]? = some x ∧ v = .str x t := by
  have hl : j < its.length := (List.getElem?_eq_some_iff.mp h).1
  have hx : j < (xs.map V.str).length := by rw [r.length]; exact hl
  obtain ⟨u, e1, e2⟩ := r.get (List.getElem?_eq_getElem hx)
  rw [h] at e1
  cases e1
  rw [List.getElem_map] at e2
  obtain ⟨t, rfl⟩ := e2
  rw [List.length_map] at hx
  exact ⟨xs[j], t, List.getElem?_eq_getElem hx, rfl⟩
theorem all_alike {xs ys : List Str} (h : xs.length = ys.length) : ((List.range xs.length).all fun j => xs[j]? == ys[j]?) = decide (xs = ys) := by
  by_cases e : xs = ys
  · subst e; simp
  · rw [decide_eq_false e]
    apply Bool.eq_false_iff.mpr
    intro c
    rw [List.all_eq_true] at c
    refine e (List.ext_getElem? fun j => ?_)
    by_cases hj : j < xs.length
    · simpa using c j (List.mem_range.mpr hj)
    · rw [List.getElem?_eq_none (by omega), List.getElem?_eq_none (by omega)]
theorem strs_rc (I : Inv X pins σ H s) (hu : X.A.units + 1 < cLine) {a b : Addr} {xs ys : List Str} (h1 : SqL X.K H a (xs.map V.str)) (h2 : SqL X.K H b (ys.map V.str)) :
    RcAt X.A s (.ref a) (.ref b) (decide (xs = ys)) ∧ RcNeAt X.A s (.ref a) (.ref b) (!decide (xs = ys)) := by
  obtain ⟨i1, v1, l1, _⟩ := I.list h1
  obtain ⟨i2, v2, l2, _⟩ := I.list h2
  have m1 := v1.length; have m2 := v2.length
  rw [List.length_map] at m1 m2
  by_cases hl : xs.length = ys.length
  · have ie : ∀ j (g1 : j < i1.toArray.size) (g2 : j < i2.toArray.size), EqAt X.A.in1 s i1.toArray[j] i2.toArray[j] (xs[j]? == ys[j]?) := fun j g1 g2 => by
      have g1' : j < i1.length := by simpa using g1
      have g2' : j < i2.length := by simpa using g2
      obtain ⟨x, t, ex, e1⟩ := vstr_at v1 (List.getElem?_eq_getElem g1')
      obtain ⟨y, u, ey, e2⟩ := vstr_at v2 (List.getElem?_eq_getElem g2')
      have c1 : i1.toArray[j] = .str x t := by rw [List.getElem_toArray]; exact e1
      have c2 : i2.toArray[j] = .str y u := by rw [List.getElem_toArray]; exact e2
      rw [c1, c2, ex, ey]
      have := EqAt.str_str (A := X.A.in1) (s := s) x t y u
      have z : (x == y) = (some x == some y) := by simp
      rw [← z]; exact this
    have sz : i1.toArray.size = xs.length := by rw [List.size_toArray]; omega
    have rc := RcAt.lists (A := X.A) (e := fun j => xs[j]? == ys[j]?) l1.isList l2.isList (by simp; omega) (by omega) ie
    have rn := RcNeAt.lists (A := X.A) (e := fun j => xs[j]? == ys[j]?) l1.isList l2.isList (by simp; omega) (by omega) ie
    rw [sz, all_alike hl] at rc rn
    exact ⟨rc, rn⟩
  · have ne : decide (xs = ys) = false := decide_eq_false fun e => hl (by rw [e])
    rw [ne]
    have sz : (i1.toArray.size != i2.toArray.size) = true := by simp; omega
    exact ⟨RcAt.lists_lengths l1.isList l2.isList sz (by omega), RcNeAt.lists_lengths l1.isList l2.isList sz (by omega)⟩
end
section
variable {X : Cx}
theorem op_neSs (hu : X.A.units + 1 < cLine) : OpR X (compareOp .NotEq) (fun x y H Q => ∃ (a b : Addr) (xs ys : List Str), x = .ref a ∧ y = .ref b ∧ SqL X.K H a (xs.map V.str) ∧ SqL X.K H b (ys.map V.str) ∧ Q (.bl (!decide (xs = ys))) H) := by
  rintro pins s σ H x y v u Q I rx ry ⟨a, b, xs, ys, rfl, rfl, h1, h2, q⟩
  cases rx; cases ry
  exact (strs_rc I hu h1 h2).2 X.prog X.w X.xe _ ⟨.bl _, H, I, rfl, q⟩
end
end L2

set_option Elab.async false
set_option linter.all false
set_option maxRecDepth 100000
set_option maxHeartbeats 4000000
/-! EQUALITY of lists of dicts, where it holds (own work) -/
namespace L2
open PySem PySem.Spec PyProof.Rows PySem.SeqAt
section
open AutoSeq1 (wpAny_loadPart')
open MeetsSeq MeetsSeq2 MeetsSeq3
variable {P : Program} {w : World}
/-- a list of things equal one by one, compared by != -/
theorem neL_loop (l b : Addr) (us vs : Array Value) (n n2 : Nat) (dd dd2 : Option Addr) (sl sl2 : Array (Option Value)) (sz : us.size = vs.size) : ∀ k i : Nat, us.size - i = k → MeetsIn P w (Builtin.«list.__eq__.loop» ⟨[.ref l, .ref b, rawInt i, rawInt 3], []⟩)
      (fun A R s => s.heap.get? l = some ⟨.type "list", dd, .seq us n, sl⟩ ∧ s.heap.get? b = some ⟨.type "list", dd2, .seq vs n2, sl2⟩ ∧ (∀ j (h1 : j < us.size) (h2 : j < vs.size), EqIn P w A.in1 s us[j] vs[j] true) ∧ R (.ok (.ret (.bool false))) s)
  | 0, i, hk => by
    intro A R s h
    obtain ⟨hp, g, d, tk, os⟩ := s; obtain ⟨q1, q2, he, h⟩ := h
    wp_walk using wpAny_loadPart' q1, wpAny_loadPart' q2
    rw [show us[((i : Nat) : Int).toNat]? = none by (simp; omega), show vs[((i : Nat) : Int).toNat]? = none by (simp; omega)]
    wp_walk using wpAny_loadPart' q1, wpAny_loadPart' q2
    show R (.ok (.ret (.bool (us.size != vs.size)))) _
    rw [sz]; simpa using h
  | k + 1, i, hk => by
    intro A R s h
    obtain ⟨hp, g, d, tk, os⟩ := s; obtain ⟨q1, q2, he, h⟩ := h
    wp_walk using wpAny_loadPart' q1, wpAny_loadPart' q2
    have lt : i < us.size := by omega
    have lt2 : i < vs.size := by omega
    rw [show us[((i : Nat) : Int).toNat]? = some us[i] by simp [lt], show vs[((i : Nat) : Int).toNat]? = some vs[i] by simp [lt2]]
    refine wpAny_bind (he i lt lt2 _ _ ?_)
    wp_walk
    rw [show ((i : Int) + 1) = ((i + 1 : Nat) : Int) by (push_cast; rfl)]
    refine ⟨plainId_quiet plain_eq_loop _, codeAny_builtin entry_eq_loop ?_⟩
    rw [Around.under_plainId plain_eq_loop _]
    exact neL_loop l b us vs n n2 dd dd2 sl sl2 sz k (i + 1) (by omega) A R _ ⟨q1, q2, he, h⟩
theorem neL_meets (l b : Addr) (us vs : Array Value) (n n2 : Nat) (dd dd2 : Option Addr) (sl sl2 : Array (Option Value)) (sz : us.size = vs.size) : MeetsIn P w (Builtin.«list.__ne__» ⟨[.ref l, .ref b], []⟩)
      (fun A R s => s.heap.get? l = some ⟨.type "list", dd, .seq us n, sl⟩ ∧ s.heap.get? b = some ⟨.type "list", dd2, .seq vs n2, sl2⟩ ∧ (∀ j (h1 : j < us.size) (h2 : j < vs.size), EqIn P w A.in1 s us[j] vs[j] true) ∧ R (.ok (.ret (.bool false))) s) := by
  intro A R s h
  obtain ⟨hp, g, d, tk, os⟩ := s; obtain ⟨q1, q2, he, h⟩ := h
  have f3 := AutoSeq1.sub_list_list
  have nz : ¬ (us.size != vs.size) = true := by simp [sz]
  wp_walk using wpAny_loadPart' q1, wpAny_loadPart' q2
  refine ⟨plainId_quiet plain_eq_loop _, codeAny_builtin entry_eq_loop ?_⟩
  rw [Around.under_plainId plain_eq_loop _]
  exact neL_loop l b us vs n n2 dd dd2 sl sl2 sz _ 0 rfl A R _ ⟨q1, q2, he, h⟩
end
section
variable {X : Cx}
/-- != of two lists of things that stand for equal data -/
theorem op_neLs (hu : X.A.units + 9 < cLine) : OpR X (compareOp .NotEq) (fun x y H Q => ∃ (a b : Addr) (xs ys : List V) (ds es : List D), x = .ref a ∧ y = .ref b ∧ SqL X.K H a xs ∧ SqL X.K H b ys ∧ Reps X.K H xs ds ∧ Reps X.K H ys es ∧ ds.length = es.length ∧
    (∀ (i : Nat) d e, ds[i]? = some d → es[i]? = some e → DEq d e ∧ d.dep ≤ 8) ∧ Q (.bl false) H) := by
  rintro pins s σ H x y v u Q I rx ry ⟨a, b, xs, ys, ds, es, rfl, rfl, q1, q2, p1, p2, hl, hd, q⟩
  cases rx; cases ry
  obtain ⟨i1, v1, l1, _⟩ := I.list q1
  obtain ⟨i2, v2, l2, _⟩ := I.list q2
  have n1 := p1.length; have n2 := p2.length; have m1 := v1.length; have m2 := v2.length
  obtain ⟨⟨c1, e1, d1, s1⟩, ho1, hc1, k1, hd1⟩ := l1.isList
  obtain ⟨⟨c2, e2, d2, s2⟩, ho2, hc2, k2, hd2⟩ := l2.isList
  simp only at hc1 hd1 hc2 hd2
  subst hc1 hd1 hc2 hd2
  refine wpAny_richCompare_same_room (op := .NotEq) ⟨_, ho1, rfl⟩ ⟨_, ho2, rfl⟩ PySem.F.slot_list_ne (call_meetsIn PySem.F.slot_list_ne ⟨_, ho1, rfl⟩ PySem.F.entry_list_ne (PySem.F.args_list_ne_2 _ _) (neL_meets a b i1.toArray i2.toArray k1 k2 _ _ _ _ (by simp; omega)) ⟨ho1, ho2, fun j h1 h2 => ?_, ?_⟩) (by omega)
  · have h1' : j < i1.length := by simpa using h1
    have h2' : j < i2.length := by simpa using h2
    have hj : j < ds.length := by omega
    have hj2 : j < es.length := by omega
    obtain ⟨y1, g1, w1⟩ := p1.get (List.getElem?_eq_getElem hj)
    obtain ⟨y2, g2, w2⟩ := p2.get (List.getElem?_eq_getElem hj2)
    obtain ⟨u1, k1, z1⟩ := v1.get g1
    obtain ⟨u2, k2, z2⟩ := v2.get g2
    have c1 : i1.toArray[j] = u1 := by simpa [List.getElem?_eq_getElem h1'] using k1
    have c2 : i2.toArray[j] = u2 := by simpa [List.getElem?_eq_getElem h2'] using k2
    rw [c1, c2]
    obtain ⟨hde, hdp⟩ := hd j _ _ (List.getElem?_eq_getElem hj) (List.getElem?_eq_getElem hj2)
    exact (rep_deq I hde (A := X.A.in1) (by show X.A.units + 1 + _ < cLine; omega) w1 w2 z1 z2).1
  · exact ⟨fun x => (nomatch x), .bl false, H, I, rfl, q⟩
end
end L2

set_option Elab.async false
set_option linter.all false
set_option maxRecDepth 100000
set_option maxHeartbeats 4000000
/-! sides by the bits of a number (own work) -/
namespace L2
open PySem PySem.Spec PyProof.Rows
def bitOn (b : Int) (j : Nat) : Prop := b / 2 ^ j % 2 = 1
instance (b : Int) (j : Nat) : Decidable (bitOn b j) := by unfold bitOn; infer_instance
def selTo (b : Int) (ps : List Str) : Nat → List Str
  | 0 => []
  | j + 1 => selTo b ps j ++ (match ps[j]? with | some x => if bitOn b j then [x] else [] | none => [])
theorem mem_selTo {b : Int} {ps : List Str} {x : Str} : ∀ {n : Nat}, x ∈ selTo b ps n ↔ ∃ j, j < n ∧ ps[j]? = some x ∧ bitOn b j
  | 0 => ⟨fun h => absurd h (by simp [selTo]), fun ⟨j, h, _⟩ => by omega⟩
  | n + 1 => by
    unfold selTo
    rw [List.mem_append, mem_selTo (n := n)]
    constructor
    · rintro (⟨j, h1, h2⟩ | h)
      · exact ⟨j, by omega, h2⟩
      · cases c : ps[n]? with
        | none => rw [c] at h; simp at h
        | some y =>
          rw [c] at h
          by_cases d : bitOn b n
          · simp [d] at h; exact ⟨n, by omega, by rw [c, h], d⟩
          · simp [d] at h
    · rintro ⟨j, h1, h2, h3⟩
      by_cases e : j = n
      · subst e; right; rw [h2]; simp [h3]
      · exact .inl ⟨j, by omega, h2, h3⟩
theorem selTo_len (b : Int) (ps : List Str) : ∀ n, (selTo b ps n).length ≤ n
  | 0 => by simp [selTo]
  | n + 1 => by
    have := selTo_len b ps n
    unfold selTo
    rw [List.length_append]
    cases ps[n]? with
    | none => simp; omega
    | some x => by_cases d : bitOn b n <;> simp [d] <;> omega
theorem selTo_nd {b : Int} {ps : List Str} (nd : ps.Nodup) : ∀ n, (selTo b ps n).Nodup
  | 0 => by simp [selTo]
  | n + 1 => by
    unfold selTo
    cases c : ps[n]? with
    | none => simpa using selTo_nd nd n
    | some x =>
      by_cases d : bitOn b n
      · simp only [d, if_true]
        refine List.nodup_append.mpr ⟨selTo_nd nd n, by simp, fun u hu v hv => ?_⟩
        rw [List.mem_singleton.mp hv]
        rintro rfl
        obtain ⟨j, h1, h2, _⟩ := mem_selTo.mp hu
        have := nd_ix nd h2 c
        omega
      · simpa [d] using selTo_nd nd n
theorem selTo_sub {b : Int} {ps : List Str} {n : Nat} : ∀ x ∈ selTo b ps n, x ∈ ps := fun x hx => by
  obtain ⟨j, _, h, _⟩ := mem_selTo.mp hx
  exact List.mem_of_getElem? h
theorem div_succ (b : Int) (j : Nat) : b / 2 ^ (j + 1) = b / 2 / 2 ^ j := by
  rw [Int.ediv_ediv_of_nonneg (by omega), Int.pow_succ', ]
theorem bit_succ (b : Int) (j : Nat) : bitOn b (j + 1) ↔ bitOn (b / 2) j := by unfold bitOn; rw [div_succ]
theorem bit_zero (b : Int) : bitOn b 0 ↔ b % 2 = 1 := by unfold bitOn; simp
theorem bits_none : ∀ {n : Nat} {b : Int}, 0 ≤ b → b < 2 ^ n → (∀ j, j < n → ¬ bitOn b j) → b = 0
  | 0, b, h0, h1, _ => by simp at h1; omega
  | n + 1, b, h0, h1, h => by
    have h2 := h 0 (by omega)
    rw [bit_zero] at h2
    have h3 : b / 2 = 0 := bits_none (n := n) (by omega) (by rw [Int.pow_succ'] at h1; omega) fun j hj hb => h (j + 1) (by omega) ((bit_succ b j).mpr hb)
    omega
theorem bits_all : ∀ {n : Nat} {b : Int}, 0 ≤ b → b < 2 ^ n → (∀ j, j < n → bitOn b j) → b = 2 ^ n - 1
  | 0, b, h0, h1, _ => by simp at h1 ⊢; omega
  | n + 1, b, h0, h1, h => by
    have h2 := h 0 (by omega)
    rw [bit_zero] at h2
    rw [Int.pow_succ'] at h1 ⊢
    have h3 : b / 2 = 2 ^ n - 1 := bits_all (n := n) (by omega) (by omega) fun j hj => (bit_succ b j).mp (h (j + 1) (by omega))
    omega
def ofBits : List Bool → Int
  | [] => 0
  | c :: cs => (if c = true then 1 else 0) + 2 * ofBits cs
theorem ofBits_bd : ∀ cs : List Bool, 0 ≤ ofBits cs ∧ ofBits cs < 2 ^ cs.length
  | [] => by simp [ofBits]
  | c :: cs => by
    have ⟨h1, h2⟩ := ofBits_bd cs
    unfold ofBits
    rw [List.length_cons, Int.pow_succ']
    cases c <;> simp <;> omega
theorem ofBits_at : ∀ {cs : List Bool} {j : Nat} {c : Bool}, cs[j]? = some c → (bitOn (ofBits cs) j ↔ c = true)
  | [], j, c, h => by simp at h
  | d :: cs, 0, c, h => by
    simp at h
    subst h
    rw [bit_zero]
    unfold ofBits
    cases d <;> simp <;> omega
  | d :: cs, j + 1, c, h => by
    have h' : cs[j]? = some c := by simpa using h
    rw [bit_succ]
    have e : ofBits (d :: cs) / 2 = ofBits cs := by
      have z : ofBits (d :: cs) = (if d = true then 1 else 0) + 2 * ofBits cs := rfl
      rw [z]
      cases d <;> simp <;> omega
    rw [e]
    exact ofBits_at h'
theorem leave_congr {ks : List Str} {c : Fl} {S S' : Str → Bool} (h : ∀ x ∈ ks, S x = S' x) : leave ks c S = leave ks c S' := by
  unfold leave
  refine sumL_congr fun x hx => sumL_congr fun y hy => ?_
  rw [h x hx, h y hy]
/-- a number for each side -/
theorem bits_for {ps : List Str} (nd : ps.Nodup) (S : Str → Bool) (h1 : ∃ x ∈ ps, S x = true) (h2 : ∃ y ∈ ps, S y = false) : ∃ b : Int, 1 ≤ b ∧ b < 2 ^ ps.length - 1 ∧ ∀ x ∈ ps, inB (selTo b ps ps.length) x = S x := by
  have hl : (ps.map S).length = ps.length := List.length_map ..
  have hb := ofBits_bd (ps.map S)
  rw [hl] at hb
  have at' : ∀ {j : Nat} {x : Str}, ps[j]? = some x → (bitOn (ofBits (ps.map S)) j ↔ S x = true) := fun {j x} h => ofBits_at (by rw [List.getElem?_map, h]; rfl)
  refine ⟨ofBits (ps.map S), ?_, ?_, fun x hx => ?_⟩
  · obtain ⟨x, hx, hs⟩ := h1
    obtain ⟨j, hj⟩ := List.getElem?_of_mem hx
    have on := (at' hj).mpr hs
    have : ofBits (ps.map S) ≠ 0 := fun e => by
      rw [e] at on
      unfold bitOn at on
      simp at on
    omega
  · obtain ⟨x, hx, hs⟩ := h2
    obtain ⟨j, hj⟩ := List.getElem?_of_mem hx
    have on : ¬ bitOn (ofBits (ps.map S)) j := fun z => by rw [(at' hj).mp z] at hs; cases hs
    have : ofBits (ps.map S) ≠ 2 ^ ps.length - 1 := fun e => by
      have all : ∀ n j : Nat, j < n → bitOn ((2 : Int) ^ n - 1) j := fun n => by
        induction n with
        | zero => intro j h; omega
        | succ n ih =>
          intro j h
          cases j with
          | zero => rw [bit_zero, Int.pow_succ']; omega
          | succ j =>
            rw [bit_succ, Int.pow_succ']
            have : (2 * (2 : Int) ^ n - 1) / 2 = 2 ^ n - 1 := by omega
            rw [this]
            exact ih j (by omega)
      rw [e] at on
      exact on (all _ j (List.getElem?_eq_some_iff.mp hj).1)
    omega
  · obtain ⟨j, hj⟩ := List.getElem?_of_mem hx
    have hjl := (List.getElem?_eq_some_iff.mp hj).1
    cases hs : S x with
    | true =>
      have : x ∈ selTo (ofBits (ps.map S)) ps ps.length := mem_selTo.mpr ⟨j, hjl, hj, (at' hj).mpr hs⟩
      simp [inB, this]
    | false =>
      have : x ∉ selTo (ofBits (ps.map S)) ps ps.length := fun z => by
        obtain ⟨i, _, hi, on⟩ := mem_selTo.mp z
        rw [(at' hi).mp on] at hs; cases hs
      simp [inB, this]
/-- each number's side has some and lacks some -/
theorem bits_side {ps : List Str} (nd : ps.Nodup) {b : Int} (h1 : 1 ≤ b) (h2 : b < 2 ^ ps.length - 1) : (∃ x ∈ ps, inB (selTo b ps ps.length) x = true) ∧ ∃ y ∈ ps, inB (selTo b ps ps.length) y = false := by
  constructor
  · apply Classical.byContradiction
    intro c
    have : b = 0 := bits_none (n := ps.length) (by omega) (by omega) fun j hj on => c (by
      have e := List.getElem?_eq_getElem hj
      exact ⟨ps[j], List.mem_of_getElem? e, by simp [inB]; exact mem_selTo.mpr ⟨j, hj, e, on⟩⟩)
    omega
  · apply Classical.byContradiction
    intro c
    have : b = 2 ^ ps.length - 1 := bits_all (n := ps.length) (by omega) (by omega) fun j hj => by
      apply Classical.byContradiction
      intro on
      have e := List.getElem?_eq_getElem hj
      refine c ⟨ps[j], List.mem_of_getElem? e, ?_⟩
      have : ps[j] ∉ selTo b ps ps.length := fun z => by
        obtain ⟨i, _, hi, on'⟩ := mem_selTo.mp z
        have := nd_ix nd hi e
        subst this
        exact on on'
      simp [inB, this]
    omega
end L2

set_option Elab.async false
set_option linter.all false
set_option maxRecDepth 100000
set_option maxHeartbeats 4000000
namespace K62
open PySem L2 PySem.Spec PyProof.Rows
def top (i : Nat) : Stmt := PySem.Challenge.pw_spareline_k62_what_is_a_plan_and_keeps.main.body.getD i (.Pass ⟨0, 0, 0, 0⟩)
abbrev s_least_side : Stmt := top 1
abbrev s_pushed_through : Stmt := top 2
abbrev s_room_on : Stmt := top 3
abbrev s_least_along : Stmt := top 4
abbrev s_shortest_way : Stmt := top 5
abbrev s_reached_from : Stmt := top 6
abbrev s_is_one_way : Stmt := top 8
abbrev s_keeps_each_way : Stmt := top 9
abbrev s_number_on : Stmt := top 10
abbrev s_l_cell_at : Stmt := top 12
abbrev s_l_mix : Stmt := top 13
abbrev s_l_names : Stmt := top 14
abbrev s_l_net : Stmt := top 15
abbrev s_l_sides : Stmt := top 16
abbrev s_l_out : Stmt := top 17
abbrev s_l_copied : Stmt := top 18
abbrev s_l_arcs : Stmt := top 19
abbrev s_l_bent : Stmt := top 20
abbrev s_l_is_plan : Stmt := top 21
abbrev s_l_keeps : Stmt := top 22
abbrev s_l_same : Stmt := top 23
abbrev s_law : Stmt := top 24
structure Adr where
  least_side : Addr
  fd_least_side : FuncData
  pushed_through : Addr
  fd_pushed_through : FuncData
  room_on : Addr
  fd_room_on : FuncData
  least_along : Addr
  fd_least_along : FuncData
  shortest_way : Addr
  fd_shortest_way : FuncData
  reached_from : Addr
  fd_reached_from : FuncData
  is_one_way : Addr
  fd_is_one_way : FuncData
  keeps_each_way : Addr
  fd_keeps_each_way : FuncData
  number_on : Addr
  fd_number_on : FuncData
  l_cell_at : Addr
  fd_l_cell_at : FuncData
  l_mix : Addr
  fd_l_mix : FuncData
  l_names : Addr
  fd_l_names : FuncData
  l_net : Addr
  fd_l_net : FuncData
  l_sides : Addr
  fd_l_sides : FuncData
  l_out : Addr
  fd_l_out : FuncData
  l_copied : Addr
  fd_l_copied : FuncData
  l_arcs : Addr
  fd_l_arcs : FuncData
  l_bent : Addr
  fd_l_bent : FuncData
  l_is_plan : Addr
  fd_l_is_plan : FuncData
  l_keeps : Addr
  fd_l_keeps : FuncData
  l_same : Addr
  fd_l_same : FuncData
  law : Addr
  fd_law : FuncData
structure Txt (K : PySem.W.Frag) (mg : Str → Option Value) (t : Adr) : Prop where
  f_least_side : Top K mg "least_side" s_least_side ["arcs", "ones", "others"] t.least_side t.fd_least_side
  f_pushed_through : Top K mg "pushed_through" s_pushed_through ["arcs", "ones", "others"] t.pushed_through t.fd_pushed_through
  f_room_on : Top K mg "room_on" s_room_on ["arcs"] t.room_on t.fd_room_on
  f_least_along : Top K mg "least_along" s_least_along ["arcs", "way"] t.least_along t.fd_least_along
  f_shortest_way : Top K mg "shortest_way" s_shortest_way ["arcs", "ones", "others"] t.shortest_way t.fd_shortest_way
  f_reached_from : Top K mg "reached_from" s_reached_from ["arcs", "ones"] t.reached_from t.fd_reached_from
  f_is_one_way : Top K mg "is_one_way" s_is_one_way ["net", "arcs"] t.is_one_way t.fd_is_one_way
  f_keeps_each_way : Top K mg "keeps_each_way" s_keeps_each_way ["arcs", "k"] t.keeps_each_way t.fd_keeps_each_way
  f_number_on : Top K mg "number_on" s_number_on ["arcs", "here", "there"] t.number_on t.fd_number_on
  f_l_cell_at : Top K mg "_law_cell_at" s_l_cell_at ["_law_script", "_law_k"] t.l_cell_at t.fd_l_cell_at
  f_l_mix : Top K mg "_law_mix" s_l_mix ["_law_cell", "_law_k"] t.l_mix t.fd_l_mix
  f_l_names : Top K mg "_law_names" s_l_names ["_law_cell", "_law_many"] t.l_names t.fd_l_names
  f_l_net : Top K mg "_law_net" s_l_net ["_law_script", "_law_names_here", "_law_bound"] t.l_net t.fd_l_net
  f_l_sides : Top K mg "_law_sides" s_l_sides ["_law_places"] t.l_sides t.fd_l_sides
  f_l_out : Top K mg "_law_out" s_l_out ["_law_arcs_here", "_law_side"] t.l_out t.fd_l_out
  f_l_copied : Top K mg "_law_copied" s_l_copied ["_law_net_here"] t.l_copied t.fd_l_copied
  f_l_arcs : Top K mg "_law_arcs" s_l_arcs ["_law_net_here", "_law_cell"] t.l_arcs t.fd_l_arcs
  f_l_bent : Top K mg "_law_bent" s_l_bent ["_law_arcs_here", "_law_cell"] t.l_bent t.fd_l_bent
  f_l_is_plan : Top K mg "_law_is_plan" s_l_is_plan ["_law_net_here", "_law_arcs_here"] t.l_is_plan t.fd_l_is_plan
  f_l_keeps : Top K mg "_law_keeps" s_l_keeps ["_law_arcs_here", "_law_k"] t.l_keeps t.fd_l_keeps
  f_l_same : Top K mg "_law_same" s_l_same ["_law_found", "_law_due"] t.l_same t.fd_l_same
  f_law : Top K mg "law" s_law ["_law_script"] t.law t.fd_law
  b_bool : mg "bool" = none
  b_dict : mg "dict" = none
  b_int : mg "int" = none
  b_isinstance : mg "isinstance" = none
  b_len : mg "len" = none
  b_list : mg "list" = none
  b_max : mg "max" = none
  b_min : mg "min" = none
  b_range : mg "range" = none
  b_sorted : mg "sorted" = none
  b_zip : mg "zip" = none
theorem sc_least_side : FnScope ["arcs", "ones", "others", "pushed"] ["arcs", "ones", "others"] (defScope s_least_side) := ⟨rfl, rfl, rfl, by decide +kernel, rfl, by decide +kernel, by decide +kernel⟩
theorem sc_pushed_through : FnScope ["arcs", "ones", "others", "room", "amount", "way", "many", "here", "there"] ["arcs", "ones", "others"] (defScope s_pushed_through) := ⟨rfl, rfl, rfl, by decide +kernel, rfl, by decide +kernel, by decide +kernel⟩
theorem sc_room_on : FnScope ["arcs", "room", "here", "there"] ["arcs"] (defScope s_room_on) := ⟨rfl, rfl, rfl, by decide +kernel, rfl, by decide +kernel, by decide +kernel⟩
theorem sc_least_along : FnScope ["arcs", "way"] ["arcs", "way"] (defScope s_least_along) := ⟨rfl, rfl, rfl, by decide +kernel, rfl, by decide +kernel, by decide +kernel⟩
theorem sc_shortest_way : FnScope ["arcs", "ones", "others", "ahead", "goals", "way"] ["arcs", "ones", "others"] (defScope s_shortest_way) := ⟨rfl, rfl, rfl, by decide +kernel, rfl, by decide +kernel, by decide +kernel⟩
theorem sc_reached_from : FnScope ["arcs", "ones", "ahead", "waiting", "one", "here", "there"] ["arcs", "ones"] (defScope s_reached_from) := ⟨rfl, rfl, rfl, by decide +kernel, rfl, by decide +kernel, by decide +kernel⟩
theorem sc_is_one_way : FnScope ["net", "arcs", "one", "other"] ["net", "arcs"] (defScope s_is_one_way) := ⟨rfl, rfl, rfl, by decide +kernel, rfl, by decide +kernel, by decide +kernel⟩
theorem sc_keeps_each_way : FnScope ["arcs", "k", "places", "other"] ["arcs", "k"] (defScope s_keeps_each_way) := ⟨rfl, rfl, rfl, by decide +kernel, rfl, by decide +kernel, by decide +kernel⟩
theorem sc_number_on : FnScope ["arcs", "here", "there"] ["arcs", "here", "there"] (defScope s_number_on) := ⟨rfl, rfl, rfl, by decide +kernel, rfl, by decide +kernel, by decide +kernel⟩
theorem sc_l_cell_at : FnScope ["_law_script", "_law_k"] ["_law_script", "_law_k"] (defScope s_l_cell_at) := ⟨rfl, rfl, rfl, by decide +kernel, rfl, by decide +kernel, by decide +kernel⟩
theorem sc_l_mix : FnScope ["_law_cell", "_law_k", "_law_number"] ["_law_cell", "_law_k"] (defScope s_l_mix) := ⟨rfl, rfl, rfl, by decide +kernel, rfl, by decide +kernel, by decide +kernel⟩
theorem sc_l_names : FnScope ["_law_cell", "_law_many", "_law_letters", "_law_base", "_law_at", "_law_size", "_law_names_here", "_law_k", "_law_name"] ["_law_cell", "_law_many"] (defScope s_l_names) := ⟨rfl, rfl, rfl, by decide +kernel, rfl, by decide +kernel, by decide +kernel⟩
theorem sc_l_net : FnScope ["_law_script", "_law_names_here", "_law_bound", "_law_bits", "_law_sums", "_law_net_here", "_law_name", "_law_i", "_law_j", "_law_draws", "_law_first"] ["_law_script", "_law_names_here", "_law_bound"] (defScope s_l_net) := ⟨rfl, rfl, rfl, by decide +kernel, rfl, by decide +kernel, by decide +kernel⟩
theorem sc_l_sides : FnScope ["_law_places", "_law_found", "_law_bits"] ["_law_places"] (defScope s_l_sides) := ⟨rfl, rfl, rfl, by decide +kernel, rfl, by decide +kernel, by decide +kernel⟩
theorem sc_l_out : FnScope ["_law_arcs_here", "_law_side", "_law_total", "_law_one", "_law_other"] ["_law_arcs_here", "_law_side"] (defScope s_l_out) := ⟨rfl, rfl, rfl, by decide +kernel, rfl, by decide +kernel, by decide +kernel⟩
theorem sc_l_copied : FnScope ["_law_net_here", "_law_found", "_law_one"] ["_law_net_here"] (defScope s_l_copied) := ⟨rfl, rfl, rfl, by decide +kernel, rfl, by decide +kernel, by decide +kernel⟩
theorem sc_l_arcs : FnScope ["_law_net_here", "_law_cell", "_law_arcs_here", "_law_one", "_law_digits", "_law_place", "_law_other", "_law_there"] ["_law_net_here", "_law_cell"] (defScope s_l_arcs) := ⟨rfl, rfl, rfl, by decide +kernel, rfl, by decide +kernel, by decide +kernel⟩
theorem sc_l_bent : FnScope ["_law_arcs_here", "_law_cell", "_law_names_here", "_law_one", "_law_other", "_law_way", "_law_near"] ["_law_arcs_here", "_law_cell"] (defScope s_l_bent) := ⟨rfl, rfl, rfl, by decide +kernel, rfl, by decide +kernel, by decide +kernel⟩
theorem sc_l_is_plan : FnScope ["_law_net_here", "_law_arcs_here", "_law_one", "_law_other"] ["_law_net_here", "_law_arcs_here"] (defScope s_l_is_plan) := ⟨rfl, rfl, rfl, by decide +kernel, rfl, by decide +kernel, by decide +kernel⟩
theorem sc_l_keeps : FnScope ["_law_arcs_here", "_law_k", "_law_side"] ["_law_arcs_here", "_law_k"] (defScope s_l_keeps) := ⟨rfl, rfl, rfl, by decide +kernel, rfl, by decide +kernel, by decide +kernel⟩
theorem sc_l_same : FnScope ["_law_found", "_law_due"] ["_law_found", "_law_due"] (defScope s_l_same) := ⟨rfl, rfl, rfl, by decide +kernel, rfl, by decide +kernel, by decide +kernel⟩
theorem sc_law : FnScope ["_law_script", "_law_names_here", "_law_net_here", "_law_cell", "_law_arcs_here", "_law_kept", "_law_k"] ["_law_script"] (defScope s_law) := ⟨rfl, rfl, rfl, by decide +kernel, rfl, by decide +kernel, by decide +kernel⟩
end K62

set_option Elab.async false
set_option linter.all false
set_option maxRecDepth 100000
set_option maxHeartbeats 4000000
namespace K62
open PySem L2 PySem.Spec PyProof.Rows
section
variable {P : Program} {w : World} {K : PySem.W.Frag} {mg : Str → Option Value} {base : Heap} {t : Adr}
/-! ### a cell of the script -/
def sp_cell (K : PySem.W.Frag) : Sp := fun vs H Q _ => ∃ (a : Addr) (ns : List Int) (k : Int), vs = [.ref a, .int k] ∧ 0 ≤ k ∧ SqL K H a (ns.map V.int) ∧ Q (.int (ns.getD k.toNat 0)) H
theorem ok_l_cell_at (T : Txt K mg t) : FnOk P w K mg base CX0 1 t.l_cell_at t.fd_l_cell_at ["_law_script", "_law_k"] (sp_cell K) := by
  refine T.f_l_cell_at.fn.ok sc_l_cell_at (fun vs H Q E h => ?_) (fun cdv A outer s H vs Q E hr h => ?_)
  · obtain ⟨a, ns, k, rfl, _⟩ := h; rfl
  · obtain ⟨a, ns, k0, rfl, h0, hS, q⟩ := h
    obtain ⟨k, rfl⟩ := Int.eq_ofNat_of_zero_le h0
    rw [Int.toNat_natCast] at q
    refine ⟨_, (pss_cons (ps_if (pt_cmpR op_lt (pv 1) (pe_callB call_len (by rfl) T.b_len boot_len' (pa_cons (pv 0) pa_nil)) (nomark _))
        (pss_one (ps_ret (pe_ix ix_list (pv 0) (pv 1) (fun _ _ => rfl))))
        pss_nil)
      (pss_one (ps_ret pe_int))), ?_⟩
    refine ⟨_, rfl, _, rfl, .ref a, ns.length, rfl, .inl ⟨_, hS, by simp⟩, _, _, rfl, rfl, _, rfl, ?_⟩
    refine iteD (fun hk => ?_) (fun hk => ?_)
    · have hk' : k < ns.length := by omega
      refine ⟨_, rfl, _, rfl, a, _, _, .int ns[k], rfl, rfl, hS, atI_nat (by simp [hk']), ?_⟩
      rw [show ns.getD k 0 = ns[k] by simp [hk']] at q
      exact q
    · have hk' : ns.length ≤ k := by omega
      rw [show ns.getD k 0 = 0 by simp [hk']] at q
      exact q
/-! ### mixing -/
def sp_mix : Sp := fun vs H Q _ => ∃ (c k : Int), vs = [.int c, .int k] ∧ 0 ≤ k ∧ k ≤ 1000000000 ∧ Q (.int (mixF c k)) H
theorem ok_l_mix (T : Txt K mg t) : FnOk P w K mg base CX0 1 t.l_mix t.fd_l_mix ["_law_cell", "_law_k"] sp_mix := by
  refine T.f_l_mix.fn.ok sc_l_mix (fun vs H Q E h => ?_) (fun cdv A outer s H vs Q E hr h => ?_)
  · obtain ⟨c, k, rfl, _⟩ := h; rfl
  · obtain ⟨c, k, rfl, h0, hk, q⟩ := h
    have e1 := Int.emod_nonneg c (show (2147483647 : Int) ≠ 0 by decide)
    have e2 := Int.emod_lt_of_pos c (show (0 : Int) < 2147483647 by decide)
    refine ⟨_, (pss_cons (ps_set (i := 2) sc_l_mix.nd rfl (Or.inl rfl) (pe_op op_mod (pe_op op_mul (pe_op op_add (pe_op op_add (pe_op op_mod (pv 0) pe_int) (pe_op op_mul pe_int (pv 1))) pe_int) pe_int) pe_int))
      (pss_cons (ps_set (i := 2) sc_l_mix.nd rfl (Or.inl rfl) (pe_op op_mod (pe_op op_add (pe_op op_mul (pv 2) (pv 2)) (pv 1)) pe_int))
      (pss_one (ps_ret (pe_op op_mod (pe_op op_mul (pv 2) (pv 2)) pe_int))))), ?_⟩
    refine ⟨_, rfl, _, _, rfl, rfl, (by show (0 : Int) < 2147483647; decide), _, rfl, _, _, rfl, rfl, .inl ⟨by decide, by decide⟩, _, _, rfl, rfl, _, _, rfl, rfl, _, _, rfl, rfl, .inr ⟨by decide, by decide⟩, _, _, rfl, rfl, (by show (0 : Int) < 2147483647; decide), ?_⟩
    have f1 := Int.emod_nonneg ((c % 2147483647 + 7919 * k + 1) * 48271) (show (2147483647 : Int) ≠ 0 by decide)
    have f2 := Int.emod_lt_of_pos ((c % 2147483647 + 7919 * k + 1) * 48271) (show (0 : Int) < 2147483647 by decide)
    refine ⟨_, rfl, _, rfl, _, _, rfl, rfl, .inl ⟨by omega, by omega⟩, _, rfl, _, _, rfl, rfl, _, _, rfl, rfl, (by show (0 : Int) < 2147483629; decide), ?_⟩
    have g1 := Int.emod_nonneg ((c % 2147483647 + 7919 * k + 1) * 48271 % 2147483647 * ((c % 2147483647 + 7919 * k + 1) * 48271 % 2147483647) + k) (show (2147483629 : Int) ≠ 0 by decide)
    have g2 := Int.emod_lt_of_pos ((c % 2147483647 + 7919 * k + 1) * 48271 % 2147483647 * ((c % 2147483647 + 7919 * k + 1) * 48271 % 2147483647) + k) (show (0 : Int) < 2147483629 by decide)
    refine ⟨_, rfl, _, rfl, _, _, rfl, rfl, .inl ⟨by omega, by omega⟩, _, _, rfl, rfl, (by show (0 : Int) < 2147483587; decide), ?_⟩
    exact q
def sp_names : Sp := fun vs H Q _ => ∃ (c n : Int), vs = [.int c, .int n] ∧ 0 ≤ n ∧ n ≤ 26 ∧ ∀ (p : Addr) (H' : Hp) (ss : List Str), Same H H' → H p = none → H' p = some (.lst (ss.map V.str)) → ss.length = n.toNat → ss.Nodup → (∀ s ∈ ss, isNm s) → Q (.ref p) H'
theorem ok_l_names (T : Txt K mg t) : FnOk P w K mg base CX0 2 t.l_names t.fd_l_names ["_law_cell", "_law_many"] sp_names := by
  refine T.f_l_names.fn.ok sc_l_names (fun vs H Q E h => ?_) (fun cdv A outer s H vs Q E hr h => ?_)
  · obtain ⟨c, n, rfl, _⟩ := h; rfl
  · obtain ⟨c, n0, rfl, hn0, hn, q⟩ := h
    obtain ⟨n, rfl⟩ := Int.eq_ofNat_of_zero_le hn0
    refine ⟨_, (pss_cons (ps_set (i := 2) sc_l_names.nd rfl (Or.inr rfl) pe_str)
      (pss_cons (ps_set (i := 3) sc_l_names.nd rfl (Or.inl rfl) (pe_bm PySem.F.plainAttrs_str PySem.F.slot_str_join PySem.F.type_str_join mt_join pe_str (pa_cons (pe_comp ["_law_j"] [2, 0] rfl (pi_range1 rfl T.b_range (pa_cons pe_int pa_nil)) (fun _ _ _ _ _ => (pg_name (i := 0) (show (["_law_j", "_law_letters", "_law_cell"] : List Str).Nodup by decide +kernel) rfl (Or.inl rfl))) (fun _ _ _ _ _ => pif_nil) (fun _ _ _ _ _ => (pe_ix ix_str (pv 1) (pe_op op_mod (pe_call (ok_l_mix T) (hr.mono (by decide)) rfl T.f_l_mix.mg T.f_l_mix.kp T.f_l_mix.bd .nil pass0 (pa_cons (pv 2) (pa_cons (pv 0) pa_nil))) pe_int) (fun _ _ => rfl))) ⟨⟨_, rfl, rfl, .inl rfl⟩, ⟨⟨_, rfl, rfl, .inl rfl⟩, trivial⟩⟩ (hfr := by show ∀ y ∈ (_ : List (Str × NameKind)), y.2 = NameKind.free → (defScope s_l_names).names.lookup y.1 = some NameKind.cell ∨ (defScope s_l_names).names.lookup y.1 = some NameKind.free; decide +kernel)) pa_nil)))
      (pss_cons (ps_set (i := 4) sc_l_names.nd rfl (Or.inl rfl) (pe_op op_mod (pe_call (ok_l_mix T) (hr.mono (by decide)) rfl T.f_l_mix.mg T.f_l_mix.kp T.f_l_mix.bd .nil pass0 (pa_cons (pv 0) (pa_cons pe_int pa_nil))) pe_int))
      (pss_cons (ps_set (i := 5) sc_l_names.nd rfl (Or.inl rfl) (pe_op op_add pe_int (pe_op op_mod (pv 0) pe_int)))
      (pss_cons (ps_set (i := 6) sc_l_names.nd rfl (Or.inl rfl) (pe_lst pa_nil))
      (pss_cons (ps_for PassesOwn.never rfl (pi_range1 rfl T.b_range (pa_cons (pv 1) pa_nil)) (pg_name (i := 7) sc_l_names.nd rfl (Or.inl rfl))
        (pss_cons (ps_set (i := 8) sc_l_names.nd rfl (Or.inl rfl) (pe_op op_add_str (pe_op op_add_str (pe_slice sl_str (pv 3) po_none (po_some (pv 4))) (pe_ix ix_str (pv 2) (pe_op op_mod (pe_op op_add (pe_call (ok_l_mix T) (hr.mono (by decide)) rfl T.f_l_mix.mg T.f_l_mix.kp T.f_l_mix.bd .nil pass0 (pa_cons (pv 0) (pa_cons pe_int pa_nil))) (pv 7)) pe_int) (fun _ _ => rfl))) (pe_slice sl_str (pv 3) (po_some (pv 4)) po_none)))
      (pss_one (ps_expr (pe_bm PySem.F.plainAttrs_list PySem.F.slot_list_append PySem.F.type_list_append mt_append (pv 6) (pa_cons (pe_slice sl_str (pv 8) po_none (po_some (pe_callB (call_max2 rfl) (by rfl) T.b_max boot_max' (pa_cons (pe_op op_add (pv 4) pe_int) (pa_cons (pe_ix ix_list (pe_lst (pa_cons (pv 5) (pa_cons (pe_op op_add pe_int (pe_op op_mod (pe_op op_add (pv 5) (pe_op op_mul pe_int (pv 7))) pe_int)) pa_nil))) (pe_op op_mod (pe_op op_fdiv (pv 0) pe_int) pe_int) (fun _ _ => rfl)) pa_nil))))) pa_nil))))))
      (pss_one (ps_ret (pv 6))))))))), ?_⟩
    refine ⟨rfl, 7, rfl, by decide, by decide, ?_⟩
    refine comp_inv 7 (fun i ys H' => i ≤ 7 ∧ H' = H ∧ ∃ ls : List Nat, ys = ls.map (fun c => V.str ⟨#[c]⟩) ∧ ls.length = i ∧ ∀ c ∈ ls, 97 ≤ c ∧ c ≤ 122) ⟨by decide, rfl, [], rfl, rfl, fun _ h => absurd h (by simp)⟩ (fun i ys H' p => ?_) (fun i ys H' hi p => ?_) (fun ys H' p => ?_)
    · obtain ⟨h7, _, ls, rfl, hl, _⟩ := p
      rw [List.length_map, hl]
      exact small1000 (by omega)
    · obtain ⟨_, rfl, ls, rfl, hl, hc⟩ := p
      refine ⟨hi, ?_⟩
      rintro v H2 ⟨rfl, rfl⟩
      simp only [gName, tYes, ↓reduceIte, Int.zero_add]
      refine ⟨_, rfl, _, rfl, _, rfl, c, i, rfl, by omega, by omega, _, _, rfl, rfl, (by show (0 : Int) < 26; decide), _, _, _, rfl, rfl, (by decide +kernel), letter_at (Int.emod_nonneg _ (by decide)) (Int.emod_lt_of_pos _ (by decide)), nxC hi ⟨hi, rfl, ls ++ [97 + (mixF c i % 26).toNat], ?_, ?_, ?_⟩⟩
      · rw [List.map_append]; rfl
      · simp [hl]
      · intro d hd
        rcases List.mem_append.mp hd with q | q
        · exact hc d q
        · rw [List.mem_singleton.mp q]
          have a1 := Int.emod_nonneg (mixF c i) (show (26 : Int) ≠ 0 by decide)
          have a2 := Int.emod_lt_of_pos (mixF c i) (show (0 : Int) < 26 by decide)
          omega
    · obtain ⟨_, rfl, ls, rfl, hl, hc⟩ := p
      refine ⟨Nat.le_refl _, fun p0 hp0 => ⟨_, p0, ls.map (fun c => ⟨#[c]⟩), rfl, rfl, .inl (.inl ?_), ?_, ?_⟩⟩
      · rw [upd_same, List.map_map]; rfl
      · have e1 : (ls.map (fun c => (⟨#[c]⟩ : Str))).map (·.length) = List.replicate 7 1 := by
          rw [List.map_map, List.eq_replicate_iff]
          refine ⟨by rw [List.length_map, hl], fun b hb => ?_⟩
          obtain ⟨d, _, rfl⟩ := List.mem_map.mp hb
          rfl
        rw [e1, List.length_map, hl]
        decide +kernel
      · have hB := join_signs ls
        generalize joinS "" (ls.map fun c => ⟨#[c]⟩) = B at hB
        have hb7 : (cs B).length = 7 := by rw [hB, hl]
        have hbl : B.length = 7 := by rw [← cs_len]; exact hb7
        have hbs : B.length ≤ sizeLine := by rw [hbl]; decide
        have hbc : ∀ d ∈ cs B, 97 ≤ d ∧ d ≤ 122 := by rw [hB]; exact hc
        refine ⟨_, rfl, c, 9, rfl, by decide, by decide, _, _, rfl, rfl, (by show (0 : Int) < 6; decide), ?_⟩
        have a1 := Int.emod_nonneg (mixF c 9) (show (6 : Int) ≠ 0 by decide)
        have a2 := Int.emod_lt_of_pos (mixF c 9) (show (0 : Int) < 6 by decide)
        refine ⟨_, rfl, _, _, rfl, rfl, (by show (0 : Int) < 6; decide), _, _, rfl, rfl, ?_⟩
        have b1 := Int.emod_nonneg c (show (6 : Int) ≠ 0 by decide)
        have b2 := Int.emod_lt_of_pos c (show (0 : Int) < 6 by decide)
        refine ⟨(by decide), fun p hp => ?_⟩
        have hS1 := Same.updN (o := .lst (ls.map fun c => V.str ⟨#[c]⟩)) hp0
        refine ⟨_, rfl, (n : Int), rfl, by omega, by omega, ?_⟩
        refine for_range (n := (n : Int).toNat) (fun i σ H2 => ∃ x7 x8 ss, σ = [some (.int c), some (.int n), some (.str lettersS), some (.str B), some (.int (mixF c 9 % 6)), some (.int (2 + c % 6)), some (.ref p), x7, x8] ∧ Same H' H2 ∧ H2 p = some (.lst (ss.map V.str)) ∧ Nms (mixF c 9 % 6).toNat (mixF c 8) i ss) ?_ (fun i σ H2 hi pv => ?_) (fun σ H2 pv => ?_)
        · exact ⟨none, none, [], rfl, hS1.trans (Same.updN hp), upd_same, Nms.nil _ _⟩
        · obtain ⟨x7, x8, ss, rfl, hS, hP, hN⟩ := pv
          have hi' : i < n := by omega
          simp only [Int.zero_add]
          have m1 := Int.emod_nonneg (mixF c 8 + i) (show (26 : Int) ≠ 0 by decide)
          have m2 := Int.emod_lt_of_pos (mixF c 8 + i) (show (0 : Int) < 26 by decide)
          refine ⟨_, rfl, _, rfl, _, rfl, _, rfl, hbs, _, rfl, _, rfl, c, 8, rfl, by decide, by decide, _, rfl, _, _, rfl, rfl, _, _, rfl, rfl, (by show (0 : Int) < 26; decide), _, _, _, rfl, rfl, (by decide +kernel), letter_at m1 m2, _, _, rfl, rfl, ?_, ?_⟩
          · have := cutS_len B none (some (mixF c 9 % 6))
            show _ + 1 ≤ sizeLine
            exact sz (by omega)
          · refine ⟨_, rfl, _, rfl, _, rfl, _, rfl, hbs, _, _, rfl, rfl, ?_, ?_⟩
            · have h1 := cutS_len B none (some (mixF c 9 % 6))
              have h2 := cutS_len B (some (mixF c 9 % 6)) none
              rw [str_len]
              show _ + 1 + _ ≤ sizeLine
              exact sz (by omega)
            · generalize hx : (cutS B none (some (mixF c 9 % 6)) ++ ⟨#[97 + ((mixF c 8 + i) % 26).toNat]⟩ ++ cutS B (some (mixF c 9 % 6)) none : Str) = X
              have hX : cs X = (cs B).take (mixF c 9 % 6).toNat ++ [97 + ((mixF c 8 + i) % 26).toNat] ++ (cs B).drop (mixF c 9 % 6).toNat := by
                rw [← hx, cs_append, cs_append, cutS_lo _ a1, cutS_hi _ a1]
              have hXl : X.length ≤ sizeLine := by rw [← cs_len, hX]; simp only [List.length_append, List.length_take, List.length_drop, hb7, List.length_singleton]; exact sz (by omega)
              obtain ⟨v, ⟨v1, v2⟩, hv⟩ := pick2b (P := fun v => 2 ≤ v ∧ v ≤ 8) (x := 2 + c % 6) (y := 2 + (2 + c % 6 + 5 * i) % 7) (c := c / 6) (by omega) (by omega)
              refine ⟨_, rfl, .inl ⟨rfl, _, SqL.of hP⟩, _, rfl, _, rfl, _, _, rfl, rfl, _, rfl, _, rfl, _, rfl, _, _, rfl, rfl, .inl ⟨by decide, by decide⟩, _, _, rfl, rfl, _, _, rfl, rfl, (by show (0 : Int) < 7; decide), _, _, rfl, rfl, (by show 2 ≤ sizeLine; decide), fun q1 hq1 => ?_⟩
              refine ⟨_, rfl, _, _, rfl, rfl, ⟨by decide, by decide⟩, _, _, rfl, rfl, (by show (0 : Int) < 2; decide), _, _, _, _, rfl, rfl, SqL.of upd_same, hv, _, _, rfl, _, rfl, _, rfl, hXl, ?_⟩
              have n1 : (mixF c 9 % 6) + 1 ≤ (if v > (mixF c 9 % 6) + 1 then v else (mixF c 9 % 6) + 1) := by split <;> omega
              have n2 : (if v > (mixF c 9 % 6) + 1 then v else (mixF c 9 % 6) + 1) ≤ 8 := by split <;> omega
              have pq : p ≠ q1 := ne_of_none hP hq1
              obtain ⟨g1, g2⟩ := nm_made (base := B) (at' := (mixF c 9 % 6).toNat) (n := (if v > (mixF c 9 % 6) + 1 then v else (mixF c 9 % 6) + 1).toNat) (c := 97 + ((mixF c 8 + i) % 26).toNat) (x := cutS X none (some (if v > (mixF c 9 % 6) + 1 then v else (mixF c 9 % 6) + 1))) hb7 hbc (by omega) (by omega) (by omega) (by omega) (by rw [cutS_lo _ (by omega), hX])
              refine ⟨p, _, _, rfl, rfl, (by rw [upd_ne pq]; exact hP), ?_, _, _, ss ++ [cutS X none (some (if v > (mixF c 9 % 6) + 1 then v else (mixF c 9 % 6) + 1))], rfl, ?_, ?_, hN.snoc (by omega) g1 g2⟩
              · rw [List.length_map, hN.1]; exact szl (by omega)
              · exact (hS.trans (Same.updN hq1)).upd (hS1.free hp)
              · rw [upd_same, List.map_append]; rfl
        · obtain ⟨x7, x8, ss, rfl, hS, hP, hN⟩ := pv
          refine ⟨_, rfl, q p H2 ss hS (hS1.free hp) hP ?_ hN.2.1 hN.2.2.1⟩
          rw [hN.1]
def sp_net (K : PySem.W.Frag) : Sp := fun vs H Q _ => ∃ (a b : Addr) (ns : List Int) (ks : List Str) (B : Int), vs = [.ref a, .ref b, .int B] ∧ SqL K H a (ns.map V.int) ∧ SqL K H b (ks.map V.str) ∧ ks.Nodup ∧ ks.length ≤ 12 ∧ 0 < B ∧ B < 1073741824 ∧
  ∀ p H', NS H p ks B H' → Q (.ref p) H'
theorem ok_l_net (T : Txt K mg t) : FnOk P w K mg base CX0 2 t.l_net t.fd_l_net ["_law_script", "_law_names_here", "_law_bound"] (sp_net K) := by
  refine T.f_l_net.fn.ok sc_l_net (fun vs H Q E h => ?_) (fun cdv A outer s H vs Q E hr h => ?_)
  · obtain ⟨a, b, ns, ks, B, rfl, _⟩ := h; rfl
  · obtain ⟨a, b, ns, ks, B, rfl, hA, hK, hnd, hlen, hB0, hB1, q⟩ := h
    have hu := hu_of hr
    refine ⟨_, (pss_cons (ps_set (i := 3) sc_l_net.nd rfl (Or.inl rfl) (pe_call (ok_l_cell_at T) (hr.mono (by decide)) rfl T.f_l_cell_at.mg T.f_l_cell_at.kp T.f_l_cell_at.bd .nil pass0 (pa_cons (pv 0) (pa_cons pe_int pa_nil))))
      (pss_cons (ps_set (i := 4) sc_l_net.nd rfl (Or.inl rfl) (pe_call (ok_l_cell_at T) (hr.mono (by decide)) rfl T.f_l_cell_at.mg T.f_l_cell_at.kp T.f_l_cell_at.bd .nil pass0 (pa_cons (pv 0) (pa_cons pe_int pa_nil))))
      (pss_cons (ps_set (i := 5) sc_l_net.nd rfl (Or.inl rfl) pe_dnewK)
      (pss_cons (ps_for PassesOwn.never rfl (pi_list (pv 1)) (pg_name (i := 6) sc_l_net.nd rfl (Or.inl rfl))
        (pss_one (ps_dput hu (pv 5) (pv 6) pe_dnewK rfl)))
      (pss_cons (ps_for PassesOwn.never rfl (pi_range1 rfl T.b_range (pa_cons (pe_callB call_len (by rfl) T.b_len boot_len' (pa_cons (pv 1) pa_nil)) pa_nil)) (pg_name (i := 7) sc_l_net.nd rfl (Or.inl rfl))
        (pss_one (ps_for PassesOwn.never rfl (pi_range2 rfl T.b_range (pa_cons (pe_op op_add (pv 7) pe_int) (pa_cons (pe_callB call_len (by rfl) T.b_len boot_len' (pa_cons (pv 1) pa_nil)) pa_nil))) (pg_name (i := 8) sc_l_net.nd rfl (Or.inl rfl))
        (pss_cons (ps_set (i := 9) sc_l_net.nd rfl (Or.inl rfl) (pe_lst (pa_cons (pv 3) (pa_cons (pv 4) pa_nil))))
      (pss_cons (ps_if (pt_cmpR op_eq (pe_op op_mod (pe_op op_fdiv (pe_call (ok_l_cell_at T) (hr.mono (by decide)) rfl T.f_l_cell_at.mg T.f_l_cell_at.kp T.f_l_cell_at.bd .nil pass0 (pa_cons (pv 0) (pa_cons pe_int pa_nil))) pe_int) pe_int) pe_int (nomark _))
        (pss_cons (ps_set (i := 10) sc_l_net.nd rfl (Or.inl rfl) (pe_call (ok_l_mix T) (hr.mono (by decide)) rfl T.f_l_mix.mg T.f_l_mix.kp T.f_l_mix.bd .nil pass0 (pa_cons (pe_call (ok_l_cell_at T) (hr.mono (by decide)) rfl T.f_l_cell_at.mg T.f_l_cell_at.kp T.f_l_cell_at.bd .nil pass0 (pa_cons (pv 0) (pa_cons pe_int pa_nil))) (pa_cons (pe_op op_add (pe_op op_mul pe_int (pv 7)) (pv 8)) pa_nil))))
      (pss_one (ps_set (i := 9) sc_l_net.nd rfl (Or.inl rfl) (pe_lst (pa_cons (pe_op op_fdiv (pe_op op_mod (pe_op op_fdiv (pv 10) pe_int) pe_int) (pe_op op_add pe_int (pe_op op_mod (pe_call (ok_l_cell_at T) (hr.mono (by decide)) rfl T.f_l_cell_at.mg T.f_l_cell_at.kp T.f_l_cell_at.bd .nil pass0 (pa_cons (pv 0) (pa_cons pe_int pa_nil))) pe_int))) (pa_cons (pe_op op_mul (pv 10) (pv 10)) pa_nil))))))
        pss_nil)
      (pss_cons (ps_if (pt_cmpR op_eq (pe_op op_mod (pe_ix ix_list (pv 9) pe_int (fun _ _ => rfl)) pe_int) pe_int (nomark _))
        (pss_cons (ps_dput hu (pe_dget hu (pv 5) (pe_ix ix_list (pv 1) (pv 7) (fun _ _ => rfl)) (fun _ _ => rfl)) (pe_ix ix_list (pv 1) (pv 8) (fun _ _ => rfl)) (pe_op op_add pe_int (pe_op op_mod (pe_ix ix_list (pv 9) pe_int (fun _ _ => rfl)) (pv 2))) rfl)
      (pss_one (ps_dput hu (pe_dget hu (pv 5) (pe_ix ix_list (pv 1) (pv 8) (fun _ _ => rfl)) (fun _ _ => rfl)) (pe_ix ix_list (pv 1) (pv 7) (fun _ _ => rfl)) (pe_op op_add pe_int (pe_op op_mod (pe_ix ix_list (pv 9) pe_int (fun _ _ => rfl)) (pv 2))) rfl)))
        pss_nil)
      (pss_cons (ps_set (i := 3) sc_l_net.nd rfl (Or.inl rfl) (pe_op op_fdiv (pv 3) pe_int))
      (pss_one (ps_set (i := 4) sc_l_net.nd rfl (Or.inl rfl) (pe_op op_fdiv (pv 4) (pv 2)))))))))))
      (pss_one (ps_ret (pv 5)))))))), ?_⟩
    refine ⟨_, rfl, a, ns, 2, rfl, by decide, hA, _, rfl, a, ns, 3, rfl, by decide, hA, fun p hp => ?_⟩
    generalize ns.getD (2 : Int).toNat 0 = bits0
    generalize ns.getD (3 : Int).toNat 0 = sums0
    refine ⟨_, rfl, b, rfl, ⟨_, (Same.updN hp).seq hK⟩, for_list (xs := ks.map V.str) (fun i σ H2 => ∃ x6 bs, σ = [some (.ref a), some (.ref b), some (.int B), some (.int bits0), some (.int sums0), some (.ref p), x6, none, none, none, none] ∧ Same H H2 ∧ NetAt H2 p bs (fun _ => []) ∧ bs.map (·.1) = ks.take i ∧ New H p bs) ?_ (fun i σ H2 hi pv => ?_) (fun i x σ H2 hx pv => ?_) (fun σ H2 pv => ?_)⟩
    · refine ⟨none, [], rfl, Same.updN hp, ⟨upd_same, fun _ h => absurd h (by simp), List.nodup_nil, by simp⟩, rfl, hp, fun _ h => absurd h (by simp)⟩
    · obtain ⟨x6, bs, rfl, hS, _⟩ := pv
      exact hS.seq hK
    · obtain ⟨x6, bs, rfl, hS, hN, hbs, hnew⟩ := pv
      rw [List.getElem?_map] at hx
      cases hk : ks[i]? with
      | none => rw [hk] at hx; cases hx
      | some k =>
      rw [hk] at hx
      cases hx
      have hfresh : k ∉ bs.map (·.1) := by
        rw [hbs]
        intro hm
        obtain ⟨j, hj⟩ := List.getElem?_of_mem hm
        rw [List.getElem?_take] at hj
        split at hj
        · rename_i hji
          have := List.pairwise_iff_getElem.mp hnd
          obtain ⟨h1, e1⟩ := List.getElem?_eq_some_iff.mp hj
          obtain ⟨h2, e2⟩ := List.getElem?_eq_some_iff.mp hk
          exact this j i h1 h2 hji (e1.trans e2.symm)
        · cases hj
      have hbl : bs.length ≤ 12 := by
        have := congrArg List.length hbs
        rw [List.length_map, List.length_take] at this
        omega
      intro r hr'
      obtain ⟨d1, d2⟩ := hN.add (x := k) hfresh hr' (szl (by omega)) rfl
      refine ⟨_, rfl, _, rfl, p, _, rfl, d1, _, bs ++ [(k, r)], rfl, ?_, d2, ?_, hnew.1, fun z hz => ?_⟩
      · exact (hS.trans (Same.updN hr')).upd hp
      · rw [List.map_append, hbs, List.take_add_one, hk]; rfl
      · rcases List.mem_append.mp hz with c | c
        · exact hnew.2 z c
        · rw [List.mem_singleton.mp c]; exact hS.free hr'
    · obtain ⟨x6, bs, rfl, hS, hN, hbs, hnew⟩ := pv
      rw [List.length_map, List.take_of_length_le (Nat.le_refl _)] at hbs
      have hNS : NS H p ks B H2 := ⟨bs, _, hS, hN, hbs, hnew, GNet.nil ks B⟩
      clear hbs hnew hN
      refine ⟨_, rfl, _, ks.length, rfl, .inl ⟨_, hS.seq hK, by simp⟩, (ks.length : Int), rfl, by omega, by omega, ?_⟩
      clear hS
      refine for_range (n := (ks.length : Int).toNat) (fun i σ H3 => ∃ x6 x7 x8 x9 x10 bits sums, σ = [some (.ref a), some (.ref b), some (.int B), some (.int bits), some (.int sums), some (.ref p), x6, x7, x8, x9, x10] ∧ NS H p ks B H3) ⟨_, _, _, _, _, _, _, rfl, hNS⟩ (fun i σ H3 hi pv => ?_) (fun σ H3 pv => ?_)
      · obtain ⟨x6, x7, x8, x9, x10, bits, sums, rfl, hNS⟩ := pv
        have hi' : i < ks.length := by omega
        simp only [Int.zero_add]
        obtain ⟨_, _, hS, _⟩ := id hNS
        refine ⟨_, rfl, _, _, rfl, rfl, _, rfl, _, ks.length, rfl, .inl ⟨_, hS.seq hK, by simp⟩, _, _, rfl, ⟨by omega, by omega, by omega, by omega⟩, ?_⟩
        clear hS
        refine for_range (n := ((ks.length : Int) - ((i : Int) + 1)).toNat) (fun j σ H3 => ∃ x8 x9 x10 bits sums, σ = [some (.ref a), some (.ref b), some (.int B), some (.int bits), some (.int sums), some (.ref p), x6, some (.int i), x8, x9, x10] ∧ NS H p ks B H3) ⟨_, _, _, _, _, rfl, hNS⟩ (fun j σ H3 hj pv => ?_) (fun σ H3 pv => ?_)
        · obtain ⟨x8, x9, x10, bits, sums, rfl, hNS⟩ := pv
          obtain ⟨bs, f, hS, hN, hbs, hnew, hg⟩ := hNS
          generalize hjj : (i : Int) + 1 + (j : Int) = jj
          have hj1 : (i : Int) < jj := by omega
          have hj2 : jj < ks.length := by omega
          refine ⟨_, rfl, _, rfl, (by show 2 ≤ sizeLine; decide), fun q1 hq1 => ?_⟩
          have S1 := hS.trans (Same.updN (o := .lst [.int bits, .int sums]) hq1)
          refine ⟨_, rfl, a, ns, 0, rfl, by decide, S1.seq hA, _, _, rfl, rfl, ⟨by decide, by decide⟩, _, _, rfl, rfl, (by show (0 : Int) < 2; decide), rfl, _, rfl, ?_⟩
          refine ifJ (R := fun σ H4 => ∃ q d0 d1 x10, σ = [some (.ref a), some (.ref b), some (.int B), some (.int bits), some (.int sums), some (.ref p), x6, some (.int i), some (.int jj), some (.ref q), x10] ∧ Same H3 H4 ∧ H4 q = some (.lst [.int d0, .int d1])) (fun σ H4 hR => ?_) (fun _ hR => ?_) (fun _ => ⟨q1, bits, sums, x10, rfl, Same.updN hq1, upd_same⟩)
          · obtain ⟨q2, d0, d1, x10', rfl, S2, hq2⟩ := hR
            have S3 := hS.trans S2
            have hN2 := hN.same S2
            refine ⟨_, rfl, _, _, _, _, rfl, rfl, SqL.of hq2, atI0, _, _, rfl, rfl, (by show (0 : Int) < 2; decide), rfl, _, rfl, ?_⟩
            refine ifJ (R := fun σ H5 => σ = [some (.ref a), some (.ref b), some (.int B), some (.int bits), some (.int sums), some (.ref p), x6, some (.int i), some (.int jj), some (.ref q2), x10'] ∧ NS H p ks B H5) (fun σ H5 hR => ?_) (fun _ hR => ?_) (fun _ => ⟨rfl, bs, f, S3, hN2, hbs, hnew, hg⟩)
            · obtain ⟨rfl, hNS⟩ := hR
              exact ⟨_, rfl, _, _, rfl, rfl, ⟨by decide, by decide⟩, _, rfl, _, rfl, _, _, rfl, rfl, ⟨hB0, hB1⟩, _, _, _, _, _, rfl, hNS⟩
            · obtain ⟨x, hx1, hx2, hx3⟩ := atI_ix (g := V.str) (l := ks) (i := (i : Int)) (by omega) (by omega)
              obtain ⟨y, hy1, hy2, hy3⟩ := atI_ix (g := V.str) (l := ks) (i := jj) (by omega) hj2
              have hxy : x ≠ y := by
                intro e
                obtain ⟨h1, e1⟩ := List.getElem?_eq_some_iff.mp hx2
                obtain ⟨h2, e2⟩ := List.getElem?_eq_some_iff.mp hy2
                exact List.pairwise_iff_getElem.mp hnd _ _ h1 h2 (by omega) (by rw [e1, e2, e])
              have hK2 := S3.seq hK
              obtain ⟨b1, hb1⟩ := addrOf_some (bs := bs) (x := x) (by rw [hbs]; exact hx1)
              obtain ⟨b2, hb2⟩ := addrOf_some (bs := bs) (x := y) (by rw [hbs]; exact hy1)
              have v1 := Int.emod_nonneg d1 (show B ≠ 0 by omega)
              have v2 := Int.emod_lt_of_pos d1 hB0
              refine ⟨_, rfl, _, _, _, _, rfl, rfl, SqL.of hq2, atI1, _, rfl, _, _, rfl, rfl, hB0, _, _, rfl, rfl, _, rfl, _, rfl, _, rfl, _, _, _, _, rfl, rfl, hK2, hx3, p, _, rfl, hN2.r.dget hb1, _, rfl, _, rfl, _, _, _, _, rfl, rfl, hK2, hy3, ?_⟩
              obtain ⟨p1, p2⟩ := hN2.put hb1 (1 + d1 % B) y (row_len hg hx1 (by omega))
              refine ⟨b1, _, rfl, p1, ?_⟩
              have S4 := Same.netput (o := .dK (encI (put (f x) y (1 + d1 % B)))) S3 hnew hb1
              have hq3 : (upd H4 b1 (.dK (encI (put (f x) y (1 + d1 % B))))) q2 = some (.lst [.int d0, .int d1]) := by
                rw [upd_ne (ne_of hq2 (hN2.inn _ (addrOf_mem hb1)) (by intro z; cases z))]; exact hq2
              have hK3 := S4.seq hK
              refine ⟨_, rfl, _, _, _, _, rfl, rfl, SqL.of hq3, atI1, _, rfl, _, _, rfl, rfl, hB0, _, _, rfl, rfl, _, rfl, _, rfl, _, rfl, _, _, _, _, rfl, rfl, hK3, hy3, p, _, rfl, p2.r.dget hb2, _, rfl, _, rfl, _, _, _, _, rfl, rfl, hK3, hx3, ?_⟩
              have hl2 : (putR f x y (1 + d1 % B) y).length < sizeLine := by rw [putR_ne (Ne.symm hxy)]; exact row_len hg hy1 (by omega)
              obtain ⟨p3, p4⟩ := p2.put hb2 (1 + d1 % B) x hl2
              refine ⟨b2, _, rfl, p3, hR _ _ ⟨rfl, bs, _, Same.netput S4 hnew hb2, p4, hbs, hnew, hg.put hx1 hy1 hxy (by omega) (by omega)⟩⟩
          · refine ⟨_, rfl, a, ns, 2, rfl, by decide, S1.seq hA, _, rfl, _, _, rfl, rfl, .inl ⟨by decide, by decide⟩, _, rfl, _, _, rfl, rfl, _, _, rfl, by omega, by omega, ?_⟩
            generalize ns.getD (2 : Int).toNat 0 = cc
            have f1 := mixF_lo cc (20 * i + jj)
            have f2 := mixF_hi cc (20 * i + jj)
            generalize mixF cc (20 * i + jj) = fi at f1 f2 ⊢
            have g1 := Int.emod_nonneg cc (show (3 : Int) ≠ 0 by decide)
            have g2 := Int.emod_lt_of_pos cc (show (0 : Int) < 3 by decide)
            refine ⟨_, rfl, _, _, rfl, rfl, ⟨by decide, by decide⟩, _, _, rfl, rfl, (by show (0 : Int) < 4; decide), _, rfl, a, ns, 2, rfl, by decide, S1.seq hA, _, _, rfl, rfl, (by show (0 : Int) < 3; decide), _, _, rfl, rfl, ?_⟩
            exact ⟨_, _, rfl, rfl, ⟨by omega, by omega⟩, _, rfl, _, rfl, _, _, rfl, rfl, .inl ⟨by omega, by omega⟩, (by show 2 ≤ sizeLine; decide), fun q2 hq2 => hR _ _ ⟨q2, _, _, _, rfl, (Same.updN hq1).trans (Same.updN hq2), upd_same⟩⟩
        · obtain ⟨x8, x9, x10, bits, sums, rfl, hNS⟩ := pv
          exact ⟨_, _, _, _, _, _, _, rfl, hNS⟩
      · obtain ⟨x6, x7, x8, x9, x10, bits, sums, rfl, hNS⟩ := pv
        exact ⟨_, rfl, q p H3 hNS⟩
end
end K62

set_option Elab.async false
set_option linter.all false
set_option maxRecDepth 100000
set_option maxHeartbeats 4000000
namespace K62
open PySem L2 PySem.Spec PyProof.Rows
section
variable {P : Program} {w : World} {K : PySem.W.Frag} {mg : Str → Option Value} {base : Heap} {t : Adr}
/-! ### what is reached -/
def sp_reached (K : PySem.W.Frag) : Sp := fun vs H Q _ => ∃ (a b : Addr) (bs : Outer) (g : Str → L2.Row) (os : List Str), vs = [.ref a, .ref b] ∧ NetR H a bs g ∧ RowsIn (bs.map (·.1)) g ∧ bs.length ≤ 12 ∧ SqL K H b (os.map V.str) ∧ os.Nodup ∧ (∀ x ∈ os, x ∈ bs.map (·.1)) ∧
  ∀ p H' L, Same H H' → H p = none → H' p = some (.dK (ahK L)) → Bfs (bs.map (·.1)) (rc g) os L → Done (bs.map (·.1)) (rc g) L L.length → Q (.ref p) H'
theorem ok_reached_from (T : Txt K mg t) : FnOk P w K mg base CX0 1 t.reached_from t.fd_reached_from ["arcs", "ones"] (sp_reached K) := by
  refine T.f_reached_from.fn.ok sc_reached_from (fun vs H Q E h => ?_) (fun cdv A outer s H vs Q E hr h => ?_)
  · obtain ⟨a, b, bs, g, os, rfl, _⟩ := h; rfl
  · obtain ⟨a, b, bs, g, os, rfl, hN, hg, hlen, hB, hnd, hos, q⟩ := h
    have hu := hu_of hr
    generalize hks : bs.map (·.1) = ks at hg hos q
    have hkl : ks.length ≤ 12 := by rw [← hks, List.length_map]; exact hlen
    have hol : os.length ≤ ks.length := nd_len hnd hos
    refine ⟨_, (pss_cons (ps_set (i := 2) sc_reached_from.nd rfl (Or.inl rfl) pe_dnewK)
      (pss_cons (ps_set (i := 3) sc_reached_from.nd rfl (Or.inl rfl) (pe_callB call_sortedL (by rfl) T.b_sorted boot_sorted (pa_cons (pv 1) pa_nil)))
      (pss_cons (ps_for PassesOwn.never rfl (pi_list (pe_callB call_sortedL (by rfl) T.b_sorted boot_sorted (pa_cons (pv 1) pa_nil))) (pg_name (i := 4) sc_reached_from.nd rfl (Or.inl rfl))
        (pss_one (ps_dput hu (pv 2) (pv 4) pe_non rfl)))
      (pss_cons (ps_while PassesOwn.never (pt_truth (pv 3) (by intro _; rfl))
        (pss_cons (ps_set (i := 5) sc_reached_from.nd rfl (Or.inl rfl) (pe_bm PySem.F.plainAttrs_list PySem.F.slot_list_pop PySem.F.type_list_pop mt_popAt (pv 3) (pa_cons pe_int pa_nil)))
      (pss_one (ps_for PassesOwn.never rfl (pi_list (pe_callB call_sortedD (by rfl) T.b_sorted boot_sorted (pa_cons (pe_dget hu (pv 0) (pv 5) (fun _ _ => rfl)) pa_nil))) (pg_name (i := 6) sc_reached_from.nd rfl (Or.inl rfl))
        (pss_one (ps_if (PW.pt (pw_and (pt_cmpR op_gt (pe_dget hu (pe_dget hu (pv 0) (pv 5) (fun _ _ => rfl)) (pv 6) (fun _ _ => rfl)) pe_int (nomark _)) (pw_and1 (pt_cmp (pc_dnotin hu (pv 6) (pv 2))))))
        (pss_cons (ps_dput hu (pv 2) (pv 6) (pv 5) rfl)
      (pss_one (ps_expr (pe_bm PySem.F.plainAttrs_list PySem.F.slot_list_append PySem.F.type_list_append mt_append (pv 3) (pa_cons (pv 6) pa_nil)))))
        pss_nil))))))
      (pss_one (ps_ret (pv 2))))))), ?_⟩
    intro p hp
    have S0 := Same.updN (o := .dK []) hp
    refine ⟨_, rfl, b, os, rfl, S0.seq hB, by omega, fun wa hwa => ?_⟩
    have S1 := S0.trans (Same.updN (o := .lst ((sortS os).map V.str)) hwa)
    have pw : p ≠ wa := fun e => by rw [← e, upd_same] at hwa; cases hwa
    refine ⟨_, rfl, b, os, rfl, S1.seq hB, by omega, fun r hr' => ⟨r, rfl, ⟨_, SqL.of upd_same⟩, ?_⟩⟩
    have S2 := S1.trans (Same.updN (o := .lst ((sortS os).map V.str)) hr')
    have pr : p ≠ r := fun e => by rw [← e, upd_ne pw, upd_same] at hr'; cases hr'
    have wr : wa ≠ r := fun e => by rw [← e, upd_same] at hr'; cases hr'
    have hwa0 := S0.free hwa
    refine for_list (xs := (sortS os).map V.str) (fun i σ H2 => ∃ x4, σ = [some (.ref a), some (.ref b), some (.ref p), some (.ref wa), x4, none, none] ∧ Same H H2 ∧ H2 r = some (.lst ((sortS os).map V.str)) ∧ H2 wa = some (.lst ((sortS os).map V.str)) ∧ H2 p = some (.dK (ahK (((sortS os).take i).map fun x => (x, none))))) ?_ (fun i σ H2 hi pv => ?_) (fun i x σ H2 hx pv => ?_) (fun σ H2 pv => ?_)
    · exact ⟨_, rfl, S2, upd_same, by rw [upd_ne wr, upd_same], by rw [upd_ne pr, upd_ne pw, upd_same]; rfl⟩
    · obtain ⟨_, rfl, _, hR, _⟩ := pv
      exact SqL.of hR
    · obtain ⟨x4, rfl, hS, hR, hW, hP⟩ := pv
      rw [List.getElem?_map] at hx
      cases hk : (sortS os)[i]? with
      | none => rw [hk] at hx; cases hx
      | some k =>
      rw [hk] at hx
      cases hx
      have hil : i < os.length := by
        have := (List.getElem?_eq_some_iff.mp hk).1
        rw [sortS_len] at this; exact this
      have hno : k ∉ (((sortS os).take i).map fun x => ((x, none) : Str × Option Str)).map (·.1) := by
        rw [List.map_map]
        have : ((sortS os).take i).map ((fun x : Str × Option Str => x.1) ∘ fun x => (x, none)) = (sortS os).take i := List.map_id' _
        rw [this]
        exact nodup_take (sortS_nodup hnd) hk
      have hput := ahK_put (p := none) hno
      refine ⟨_, rfl, _, rfl, p, _, rfl, DPut.k (k := Sum.inr k) (v := .non) hP (by unfold ahK; simp only [List.length_map, List.length_take]; exact szl (by omega)), _, rfl, hS.upd hp, ?_, ?_, ?_⟩
      · rw [upd_ne (Ne.symm pr)]; exact hR
      · rw [upd_ne (Ne.symm pw)]; exact hW
      · rw [upd_same, List.take_add_one, hk, List.map_append]
        exact congrArg (fun z => some (HO.dK z)) hput
    · obtain ⟨x4, rfl, hS, hR, hW, hP⟩ := pv
      rw [List.length_map, List.take_of_length_le (Nat.le_refl _)] at hP
      refine ⟨fun m σ H3 => ∃ x4 x5 x6 L i, m = 12 - i ∧ σ = [some (.ref a), some (.ref b), some (.ref p), some (.ref wa), x4, x5, x6] ∧ Same H H3 ∧ H3 wa = some (.lst (((L.drop i).map (·.1)).map V.str)) ∧ H3 p = some (.dK (ahK L)) ∧ Bfs ks (rc g) os L ∧ Done ks (rc g) L i ∧ i ≤ L.length, ⟨12, _, _, _, (sortS os).map fun x => (x, none), 0, rfl, rfl, hS, ?_, hP, Bfs.start hnd hos, fun x hx => absurd hx (by simp), Nat.zero_le _⟩, fun m σ H3 pv => ?_⟩
      · have e0 : ((sortS os).map fun x => ((x, none) : Str × Option Str)).map (·.1) = sortS os := by rw [List.map_map]; exact List.map_id' _
        rw [List.drop_zero, e0]; exact hW
      · obtain ⟨x4, x5, x6, L, i, rfl, rfl, hS3, hW3, hP3, hb, hd, hiL⟩ := pv
        have hLl := hb.len
        refine ⟨_, rfl, _, .inl ⟨_, SqL.of hW3, rfl⟩, ?_⟩
        refine iteB (fun hne => ?_) (fun he => ?_)
        · have hlt : i < L.length := by
            rcases Nat.lt_or_ge i L.length with c | c
            · exact c
            · rw [List.drop_eq_nil_of_le c] at hne; simp at hne
          obtain ⟨e, he⟩ : ∃ e, L[i]? = some e := ⟨_, List.getElem?_eq_getElem hlt⟩
          have hdrop : L.drop i = e :: L.drop (i + 1) := by
            rw [List.drop_eq_getElem_cons hlt]
            congr 1
            exact (List.getElem?_eq_some_iff.mp he).2
          have hws : ((L.drop i).map (·.1)).map V.str = V.str e.1 :: ((L.drop (i + 1)).map (·.1)).map V.str := by rw [hdrop]; rfl
          rw [hws] at hW3
          have hem : e.1 ∈ ks := hb.mem e.1 (List.mem_map.mpr ⟨_, List.mem_of_getElem? he, rfl⟩)
          have hwl : (((L.drop (i + 1)).map (·.1)).map V.str).length ≤ 12 := by simp only [List.length_map, List.length_drop]; omega
          refine ⟨fun σ' H' => ∃ m', m' < 12 - i ∧ ∃ x4 x5 x6 L i, m' = 12 - i ∧ σ' = [some (.ref a), some (.ref b), some (.ref p), some (.ref wa), x4, x5, x6] ∧ Same H H' ∧ H' wa = some (.lst (((L.drop i).map (·.1)).map V.str)) ∧ H' p = some (.dK (ahK L)) ∧ Bfs ks (rc g) os L ∧ Done ks (rc g) L i ∧ i ≤ L.length, fun _ _ h => h, ?_⟩
          refine ⟨_, rfl, .inl ⟨rfl, _, SqL.of hW3⟩, wa, _, 0, 0, _, rfl, rfl, hW3, by decide, by decide, seqIx (Int.le_refl _) (by rw [List.length_cons]; omega), rfl, ?_⟩
          have hS4 : Same H (upd H3 wa (.lst ((V.str e.1 :: ((L.drop (i + 1)).map (·.1)).map V.str).eraseIdx 0))) := hS3.upd hwa0
          have hW4 : (upd H3 wa (.lst ((V.str e.1 :: ((L.drop (i + 1)).map (·.1)).map V.str).eraseIdx 0))) wa = some (.lst (((L.drop (i + 1)).map (·.1)).map V.str)) := upd_same
          have hP4 : (upd H3 wa (.lst ((V.str e.1 :: ((L.drop (i + 1)).map (·.1)).map V.str).eraseIdx 0))) p = some (.dK (ahK L)) := by rw [upd_ne pw]; exact hP3
          generalize upd H3 wa (.lst ((V.str e.1 :: ((L.drop (i + 1)).map (·.1)).map V.str).eraseIdx 0)) = H4 at hS4 hW4 hP4
          have hN4 := hN.sm hS4.sm
          obtain ⟨b1, hb1, hbr⟩ := hN4.row (x := e.1) (hks ▸ hem)
          have hrow : ((g e.1).map (·.1)).length ≤ ks.length := nd_len (hg.nd e.1 hem) (hg.inn e.1 hem)
          refine ⟨_, rfl, _, rfl, a, .ref b1, rfl, hN4.dget hb1, rfl, b1, _, (g e.1).map (·.1), rfl, hbr, keysS_encI _, by omega, fun r2 hr2 => ⟨r2, rfl, ⟨_, SqL.of upd_same⟩, ?_⟩⟩
          have r2w : wa ≠ r2 := ne_of_none hW4 hr2
          have r2p : p ≠ r2 := ne_of_none hP4 hr2
          have T1 := hS4.trans (Same.updN (o := .lst ((sortS ((g e.1).map (·.1))).map V.str)) hr2)
          refine for_list (xs := (sortS ((g e.1).map (·.1))).map V.str) (fun j σ H5 => ∃ x6 L', σ = [some (.ref a), some (.ref b), some (.ref p), some (.ref wa), x4, some (.str e.1), x6] ∧ Same H H5 ∧ H5 r2 = some (.lst ((sortS ((g e.1).map (·.1))).map V.str)) ∧ H5 wa = some (.lst (((L'.drop (i + 1)).map (·.1)).map V.str)) ∧ H5 p = some (.dK (ahK L')) ∧ Bfs ks (rc g) os L' ∧ Done ks (rc g) L' i ∧ L'[i]? = some e ∧ ∀ y ∈ (sortS ((g e.1).map (·.1))).take j, 0 < rc g e.1 y → y ∈ L'.map (·.1)) ?_ (fun j σ H5 hj pv => ?_) (fun j x σ H5 hx pv => ?_) (fun σ H5 pv => ?_)
          · exact ⟨_, L, rfl, T1, upd_same, by rw [upd_ne r2w]; exact hW4, by rw [upd_ne r2p]; exact hP4, hb, hd, he, fun y hy => absurd hy (by simp)⟩
          · obtain ⟨_, _, rfl, _, hR5, _⟩ := pv
            exact SqL.of hR5
          · obtain ⟨x6, L', rfl, hS5, hR5, hW5, hP5, hb5, hd5, he5, hin⟩ := pv
            rw [List.getElem?_map] at hx
            cases hy : (sortS ((g e.1).map (·.1)))[j]? with
            | none => rw [hy] at hx; cases hx
            | some y =>
            rw [hy] at hx
            cases hx
            have hym : y ∈ (g e.1).map (·.1) := mem_sortS.mp (List.mem_of_getElem? hy)
            obtain ⟨v, hv⟩ := look_some_iff.mpr hym
            have hrc : rc g e.1 y = v := by unfold rc; rw [hv]; rfl
            have hN5 := hN.sm hS5.sm
            have hL5 := hb5.len
            have step : y ∈ L'.map (·.1) ∨ ¬ 0 < v → ∃ x6 L'', [some (V.ref a), some (.ref b), some (.ref p), some (.ref wa), x4, some (.str e.1), some (.str y)] = [some (.ref a), some (.ref b), some (.ref p), some (.ref wa), x4, some (.str e.1), x6] ∧ Same H H5 ∧ H5 r2 = some (.lst ((sortS ((g e.1).map (·.1))).map V.str)) ∧ H5 wa = some (.lst (((L''.drop (i + 1)).map (·.1)).map V.str)) ∧ H5 p = some (.dK (ahK L'')) ∧ Bfs ks (rc g) os L'' ∧ Done ks (rc g) L'' i ∧ L''[i]? = some e ∧ ∀ z ∈ (sortS ((g e.1).map (·.1))).take (j + 1), 0 < rc g e.1 z → z ∈ L''.map (·.1) := fun hc => by
              refine ⟨_, L', rfl, hS5, hR5, hW5, hP5, hb5, hd5, he5, fun z hz h0 => ?_⟩
              rw [List.take_add_one, hy] at hz
              rcases List.mem_append.mp hz with c | c
              · exact hin z c h0
              · have : z = y := by simpa using c
                rw [this] at h0 ⊢
                rw [hrc] at h0
                exact hc.resolve_right (fun z => z h0)
            refine ⟨_, rfl, _, rfl, a, _, rfl, hN5.dget hb1, _, rfl, b1, _, rfl, hN5.rget' hb1 hv, _, _, rfl, rfl, _, rfl, iteD (fun h0 => ?_) (fun h0 => iteF (step (.inr h0)))⟩
            refine ⟨_, rfl, _, rfl, p, _, rfl, DGet.k (k := Sum.inr y) hP5, _, rfl, ?_⟩
            rw [valV_ahK]
            by_cases hmem : y ∈ L'.map (·.1)
            · have : ∃ o, ahOf L' y = some o := by
                cases q : ahOf L' y with
                | none => exact absurd hmem (ahOf_none.mp q)
                | some o => exact ⟨o, rfl⟩
              obtain ⟨o, ho⟩ := this
              rw [ho]
              exact iteF (step (.inl hmem))
            · rw [ahOf_none.mpr hmem]
              have hput := ahK_put (p := some e.1) hmem
              have hkey : y ∈ ks := hg.inn e.1 hem y hym
              refine iteT ⟨_, rfl, _, rfl, _, rfl, p, _, rfl, DPut.k (k := Sum.inr y) (v := .str e.1) hP5 (by unfold ahK; rw [List.length_map]; exact szl (by omega)), ?_⟩
              have hW6 : (upd H5 p (.dK (putK (ahK L') (Sum.inr y) (.str e.1)))) wa = some (.lst (((L'.drop (i + 1)).map (·.1)).map V.str)) := by rw [upd_ne (Ne.symm pw)]; exact hW5
              have hiL' : i < L'.length := (List.getElem?_eq_some_iff.mp he5).1
              refine ⟨_, rfl, .inl ⟨rfl, _, SqL.of hW6⟩, _, rfl, wa, _, _, rfl, rfl, hW6, (by simp only [List.length_map, List.length_drop]; exact szl (by omega)), ?_⟩
              refine ⟨_, L' ++ [(y, some e.1)], rfl, (hS5.upd hp).upd hwa0, ?_, ?_, ?_, hb5.snoc he5 hmem hkey (by rw [hrc]; exact h0), hd5.snoc (by omega) _, ?_, fun z hz h1 => ?_⟩
              · rw [upd_ne (ne_of_none hW4 hr2).symm, upd_ne (ne_of_none hP4 hr2).symm]; exact hR5
              · rw [upd_same, List.drop_append_of_le_length (by omega), List.map_append, List.map_append]; rfl
              · rw [upd_ne pw, upd_same]
                exact congrArg (fun z => some (HO.dK z)) hput
              · rw [List.getElem?_append_left hiL']; exact he5
              · rw [List.map_append]
                rw [List.take_add_one, hy] at hz
                rcases List.mem_append.mp hz with c | c
                · exact List.mem_append_left _ (hin z c h1)
                · have : z = y := by simpa using c
                  rw [this]; exact List.mem_append_right _ (by simp)
          · obtain ⟨x6, L', rfl, hS5, hR5, hW5, hP5, hb5, hd5, he5, hin⟩ := pv
            have hiL' : i < L'.length := (List.getElem?_eq_some_iff.mp he5).1
            have hL5 := hb5.len
            refine ⟨12 - (i + 1), by omega, _, _, _, L', i + 1, rfl, rfl, hS5, hW5, hP5, hb5, fun x hx y hy h0 => ?_, hiL'⟩
            rw [List.take_add_one, he5, List.map_append] at hx
            rcases List.mem_append.mp hx with c | c
            · exact hd5 x c y hy h0
            · have hx1 : x = e.1 := by simpa using c
              rw [hx1] at h0
              refine hin y ?_ h0
              rw [List.length_map, List.take_of_length_le (Nat.le_refl _)]
              refine mem_sortS.mpr ?_
              unfold rc at h0
              cases hl : look (g e.1) y with
              | none => rw [hl] at h0; simp at h0
              | some v => exact look_some_iff.mp ⟨v, hl⟩
        · have hge : L.length ≤ i := by
            have h1 : ((L.drop i).map (·.1)).map V.str = [] := by simpa using he
            have h2 := congrArg List.length h1
            simp only [List.length_map, List.length_drop, List.length_nil] at h2
            omega
          have hii : i = L.length := by omega
          rw [hii] at hd
          exact ⟨_, rfl, q p H3 L hS3 hp hP3 hb hd⟩
end
end K62

set_option Elab.async false
set_option linter.all false
set_option maxRecDepth 100000
set_option maxHeartbeats 4000000
namespace K62
open PySem L2 PySem.Spec PyProof.Rows
section
variable {P : Program} {w : World} {K : PySem.W.Frag} {mg : Str → Option Value} {base : Heap} {t : Adr}
/-! ### a shortest way -/
/-- no way, and all that is reached; or a way -/
def ShortW (ks : List Str) (r : Fl) (os ts : List Str) (w : List Str) : Prop :=
  (w = [] ∧ ∃ L, Bfs ks r os L ∧ Done ks r L L.length ∧ ∀ x ∈ ts, x ∉ L.map (·.1)) ∨
  ∃ k x0 xk, w[0]? = some x0 ∧ w[k]? = some xk ∧ w.length = k + 1 ∧ x0 ∈ os ∧ xk ∈ ts ∧ w.Nodup ∧ (∀ x ∈ w, x ∈ ks) ∧ ∀ (i : Nat) (x y : Str), w[i]? = some x → w[i + 1]? = some y → 0 < r x y
def sp_short (K : PySem.W.Frag) : Sp := fun vs H Q _ => ∃ (a b c : Addr) (bs : Outer) (g : Str → L2.Row) (os ts : List Str), vs = [.ref a, .ref b, .ref c] ∧ NetR H a bs g ∧ RowsIn (bs.map (·.1)) g ∧ bs.length ≤ 12 ∧ SqL K H b (os.map V.str) ∧ os.Nodup ∧ (∀ x ∈ os, x ∈ bs.map (·.1)) ∧ SqL K H c (ts.map V.str) ∧
  ∀ p H' w, Same H H' → H p = none → H' p = some (.lst (w.map V.str)) → ShortW (bs.map (·.1)) (rc g) os ts w → Q (.ref p) H'
theorem ok_shortest_way (T : Txt K mg t) : FnOk P w K mg base CX0 2 t.shortest_way t.fd_shortest_way ["arcs", "ones", "others"] (sp_short K) := by
  refine T.f_shortest_way.fn.ok sc_shortest_way (fun vs H Q E h => ?_) (fun cdv A outer s H vs Q E hr h => ?_)
  · obtain ⟨a, b, c, bs, g, os, ts, rfl, _⟩ := h; rfl
  · obtain ⟨a, b, c, bs, g, os, ts, rfl, hN, hg, hlen, hB, hnd, hos, hC, q⟩ := h
    have hu := hu_of hr
    refine ⟨_, (pss_cons (ps_set (i := 3) sc_shortest_way.nd rfl (Or.inl rfl) (pe_call (ok_reached_from T) (hr.mono (by decide)) rfl T.f_reached_from.mg T.f_reached_from.kp T.f_reached_from.bd .nil pass0 (pa_cons (pv 0) (pa_cons (pv 1) pa_nil))))
      (pss_cons (ps_setC (i := 4) ["place"] [2] rfl sc_shortest_way.nd rfl rfl (pi_dict (pv 3)) (fun _ _ _ _ _ => (pg_name (i := 0) (show (["place", "others"] : List Str).Nodup by decide +kernel) rfl (Or.inl rfl))) (fun _ _ _ _ _ => (pif_one (pt_cmpR (op_in_seqK (K := K) rfl) (pv 0) (pv 1) rfl))) (fun _ _ _ _ _ => (pv 0)) ⟨⟨_, rfl, rfl, .inl rfl⟩, trivial⟩ (hfr := by show ∀ y ∈ (_ : List (Str × NameKind)), y.2 = NameKind.free → (defScope s_shortest_way).names.lookup y.1 = some NameKind.cell ∨ (defScope s_shortest_way).names.lookup y.1 = some NameKind.free; decide +kernel))
      (pss_cons (ps_if (pt_not (pt_truth (pv 4) (by intro _; rfl)))
        (pss_one (ps_ret (pe_lst pa_nil)))
        pss_nil)
      (pss_cons (ps_set (i := 5) sc_shortest_way.nd rfl (Or.inl rfl) (pe_lst (pa_cons (pe_ix ix_list (pv 4) pe_int (fun _ _ => rfl)) pa_nil)))
      (pss_cons (ps_while PassesOwn.never (pt_cmpR op_notN (pe_dget hu (pv 3) (pe_ix ix_list (pv 5) pe_int (fun _ _ => rfl)) (fun _ _ => rfl)) pe_non (nomark _))
        (pss_one (ps_expr (pe_bm PySem.F.plainAttrs_list PySem.F.slot_list_insert PySem.F.type_list_insert mt_insert0 (pv 5) (pa_cons pe_int (pa_cons (pe_dget hu (pv 3) (pe_ix ix_list (pv 5) pe_int (fun _ _ => rfl)) (fun _ _ => rfl)) pa_nil))))))
      (pss_one (ps_ret (pv 5)))))))), ?_⟩
    refine ⟨_, rfl, _, rfl, a, b, bs, g, os, rfl, hN, hg, hlen, hB, hnd, hos, fun p H1 L S1 hp hP hb hd => ?_⟩
    generalize hks : bs.map (·.1) = ks at hg hos q hb hd
    have hkl : ks.length ≤ 12 := by rw [← hks, List.length_map]; exact hlen
    have hLl := hb.len
    refine ⟨_, rfl, p, _, rfl, .inl hP, fun o H2 fz => ?_⟩
    have e2 : H2 = upd H1 p (.frz o (.dK (ahK L))) := by
      obtain ⟨h, e | ⟨_, e⟩⟩ := fz
      · rw [e, hP] at h; cases h
      · exact e
    have S2 : Same H H2 := by rw [e2]; exact S1.upd hp
    have hP2 : H2 p = some (.frz o (.dK (ahK L))) := by rw [e2, upd_same]
    clear e2 fz
    have hal : (ahK L).length = L.length := by unfold ahK; simp
    refine comp_inv (ahK L).length (fun i ys H3 => H3 = H2 ∧ i ≤ L.length ∧ ys = (((L.take i).map (·.1)).filter fun x => decide (x ∈ ts)).map V.str) ⟨rfl, Nat.zero_le _, rfl⟩ (fun i ys H3 pv => ?_) (fun i ys H3 hi pv => ?_) (fun ys H3 pv => ?_)
    · obtain ⟨_, h2, rfl⟩ := pv
      rw [List.length_map]
      refine Nat.lt_of_le_of_lt (List.length_filter_le _ _) ?_
      rw [List.length_map, List.length_take]
      exact szl (by omega)
    · obtain ⟨rfl, h2, rfl⟩ := pv
      rw [hal] at hi
      obtain ⟨e, he⟩ : ∃ e, L[i]? = some e := ⟨_, List.getElem?_eq_getElem hi⟩
      have hke : (ahK L)[i]? = some (Sum.inr e.1, ahV e.2) := by unfold ahK; rw [List.getElem?_map, he]; rfl
      refine ⟨⟨hP2, by rw [hal]; exact hi⟩, ?_⟩
      rintro v H4 ⟨rfl, k, u, hv, rfl⟩
      rw [hke] at hv
      cases hv
      refine ⟨_, rfl, _, rfl, c, ts.map V.str, rfl, .inl (S2.seq hC), rfl, flat_strs ts, _, rfl, ?_⟩
      have hin : (if false = true then !inV (kV (Sum.inr e.1)) (ts.map V.str) else inV (kV (Sum.inr e.1)) (ts.map V.str)) = decide (e.1 ∈ ts) := by rw [if_neg (by decide)]; exact inV_strs e.1 ts
      have tk : (((L.take (i + 1)).map (·.1)).filter fun x => decide (x ∈ ts)) = (((L.take i).map (·.1)).filter fun x => decide (x ∈ ts)) ++ (if e.1 ∈ ts then [e.1] else []) := by
        rw [List.take_add_one, he, List.map_append, List.filter_append]
        congr 1
        by_cases z : e.1 ∈ ts <;> simp [z]
      show if _ = true then _ else _
      rw [hin]
      refine iteD (fun z => ⟨_, rfl, nxC (by rw [hal]; exact hi) ⟨rfl, hi, ?_⟩⟩) (fun z => nxC (by rw [hal]; exact hi) ⟨rfl, hi, ?_⟩)
      · rw [tk, if_pos z, List.map_append]; rfl
      · rw [tk, if_neg z, List.append_nil]
    · obtain ⟨rfl, _, rfl⟩ := pv
      rw [hal, List.take_of_length_le (Nat.le_refl _)]
      generalize hgs : ((L.map (·.1)).filter fun x => decide (x ∈ ts)) = gs
      refine ⟨⟨hP2, by rw [hal]; exact Nat.le_refl _⟩, fun gp hgp => ?_⟩
      have S3 := S2.trans (Same.updN (o := .lst (gs.map V.str)) hgp)
      have hG : (upd H3 gp (.lst (gs.map V.str))) gp = some (.lst (gs.map V.str)) := upd_same
      have hP3 : (upd H3 gp (.lst (gs.map V.str))) p = some (.frz o (.dK (ahK L))) := by rw [upd_ne (ne_of_none hP2 hgp)]; exact hP2
      generalize upd H3 gp (.lst (gs.map V.str)) = H4 at S3 hG hP3
      refine ⟨_, rfl, _, .inl ⟨_, SqL.of hG, rfl⟩, ?_⟩
      cases hgc : gs with
      | nil =>
        refine iteT ⟨(by decide), fun wp hwp => q wp _ [] (S3.trans (Same.updN hwp)) (S3.free hwp) upd_same (.inl ⟨rfl, L, hb, hd, fun x hx hm => ?_⟩)⟩
        have : x ∈ gs := by rw [← hgs]; exact List.mem_filter.mpr ⟨hm, by simpa using hx⟩
        rw [hgc] at this; simp at this
      | cons x0 gt =>
        rw [hgc] at hG
        refine iteF ⟨_, rfl, gp, _, 0, .str x0, rfl, rfl, SqL.of hG, atI_nat (j := 0) rfl, (by show 1 ≤ sizeLine; decide), fun wp hwp => ?_⟩
        have hx0 : x0 ∈ (L.map (·.1)) ∧ x0 ∈ ts := by
          have : x0 ∈ gs := by rw [hgc]; simp
          rw [← hgs] at this
          obtain ⟨h1, h2⟩ := List.mem_filter.mp this
          exact ⟨h1, by simpa using h2⟩
        obtain ⟨e, he, hex⟩ := List.mem_map.mp hx0.1
        obtain ⟨i0, hi0⟩ := List.getElem?_of_mem he
        obtain ⟨ex, ep⟩ := e
        subst hex
        have S4 := S3.trans (Same.updN (o := .lst [V.str ex]) hwp)
        have hP4 : (upd H4 wp (.lst [V.str ex])) p = some (.frz o (.dK (ahK L))) := by rw [upd_ne (ne_of_none hP3 hwp)]; exact hP3
        have hwp0 := S3.free hwp
        have getA : ∀ {Hx : Hp} {i : Nat} {x : Str} {op : Option Str}, Hx p = some (.frz o (.dK (ahK L))) → L[i]? = some (x, op) → DGet Hx p (.str x) (some (ahV op)) := fun {Hx} {i} {x} {op} h1 h2 => by
          have := ahOf_get hb.nd h2
          exact .inl ⟨ahK L, Sum.inr x, .inr ⟨o, h1⟩, rfl, by rw [valV_ahK, this]; rfl⟩
        refine ⟨fun m σ H5 => ∃ i w, m = i ∧ σ = [some (.ref a), some (.ref b), some (.ref c), some (.ref p), some (.ref gp), some (.ref wp)] ∧ Same H H5 ∧ H5 wp = some (.lst (w.map V.str)) ∧ H5 p = some (.frz o (.dK (ahK L))) ∧ Trail ks os (rc g) L i w ∧ ∃ k, w[k]? = some ex ∧ w.length = k + 1, ⟨i0, i0, [ex], rfl, rfl, S4, upd_same, hP4, Trail.one hb hi0, 0, rfl, rfl⟩, fun m σ H5 pv => ?_⟩
        obtain ⟨i, w, rfl, rfl, S5, hW5, hP5, tr, k, hk, hwl⟩ := pv
        obtain ⟨x, op, hx, hL⟩ := tr.head
        have hat : atI (w.map V.str) 0 = some (.str x) := atI_nat (j := 0) (by rw [List.getElem?_map, hx]; rfl)
        have hwlen : w.length ≤ 12 := Nat.le_trans (nd_len tr.nd tr.mem) hkl
        refine ⟨_, rfl, _, rfl, wp, _, 0, .str x, rfl, rfl, SqL.of hW5, hat, p, _, rfl, getA hP5 hL, rfl, _, rfl, ?_⟩
        rcases hb.par _ x op hL with ⟨hn, hxo⟩ | ⟨y, j, oq, hs', hj, hjL, hrr⟩
        · rw [hn]
          exact iteF ⟨_, rfl, q wp H5 w S5 hwp0 hW5 (.inr ⟨k, x, ex, hx, hk, hwl, hxo, hx0.2, tr.nd, tr.mem, tr.room⟩)⟩
        · rw [hs']
          rw [hs'] at hL
          refine iteT ⟨fun σ' H' => ∃ m', m' < m ∧ ∃ i w, m' = i ∧ σ' = [some (.ref a), some (.ref b), some (.ref c), some (.ref p), some (.ref gp), some (.ref wp)] ∧ Same H H' ∧ H' wp = some (.lst (w.map V.str)) ∧ H' p = some (.frz o (.dK (ahK L))) ∧ Trail ks os (rc g) L i w ∧ ∃ k, w[k]? = some ex ∧ w.length = k + 1, fun _ _ h => h, ?_⟩
          refine ⟨_, rfl, .inl ⟨rfl, _, SqL.of hW5⟩, _, rfl, _, rfl, wp, _, 0, .str x, rfl, rfl, SqL.of hW5, hat, p, _, rfl, getA hP5 hL, wp, _, .str y, rfl, rfl, hW5, (by rw [List.length_map]; exact szl (by omega)), ?_⟩
          refine ⟨j, hj, j, y :: w, rfl, rfl, S5.upd hwp0, ?_, ?_, tr.cons hb hx hj hjL hrr, k + 1, by rw [List.getElem?_cons_succ]; exact hk, by rw [List.length_cons, hwl]⟩
          · rw [upd_same]; rfl
          · rw [upd_ne (ne_of hP5 hW5 (by intro z; cases z))]; exact hP5
end
end K62

set_option Elab.async false
set_option linter.all false
set_option maxRecDepth 100000
set_option maxHeartbeats 4000000
namespace K62
open PySem L2 PySem.Spec PyProof.Rows
section
variable {P : Program} {w : World} {K : PySem.W.Frag} {mg : Str → Option Value} {base : Heap} {t : Adr}
/-! ### the least along a way -/
def sp_least (K : PySem.W.Frag) : Sp := fun vs H Q _ => ∃ (a b : Addr) (bs : Outer) (g : Str → L2.Row) (w : List Str), vs = [.ref a, .ref b] ∧ NetR H a bs g ∧ SqL K H b (w.map V.str) ∧ 2 ≤ w.length ∧ w.length ≤ 12 ∧ (∀ (i : Nat) (x y : Str), w[i]? = some x → w[i + 1]? = some y → x ∈ bs.map (·.1) ∧ (look (g x) y).isSome = true) ∧
  ∀ m H', Same H H' → (∀ (i : Nat) (x y : Str), w[i]? = some x → w[i + 1]? = some y → m ≤ rc g x y) → (∃ (i : Nat) (x y : Str), w[i]? = some x ∧ w[i + 1]? = some y ∧ m = rc g x y) → Q (.int m) H'
theorem ok_least_along (T : Txt K mg t) : FnOk P w K mg base CX0 1 t.least_along t.fd_least_along ["arcs", "way"] (sp_least K) := by
  refine T.f_least_along.fn.ok sc_least_along (fun vs H Q E h => ?_) (fun cdv A outer s H vs Q E hr h => ?_)
  · obtain ⟨a, b, bs, g, w, rfl, _⟩ := h; rfl
  · obtain ⟨a, b, bs, g, w, rfl, hN, hB, hw2, hw12, hkey, q⟩ := h
    have hu := hu_of hr
    refine ⟨_, (pss_one (ps_ret (pe_callB (call_minL rfl) (by rfl) T.b_min boot_min' (pa_cons (pe_comp ["here", "there"] [0] rfl (pi_zip rfl T.b_zip (pa_cons (pv 1) (pa_cons (pe_slice sl_list (pv 1) (po_some pe_int) po_none) pa_nil))) (fun _ _ _ _ _ => (pg_twoK (K := K) rfl (i := 0) (j := 1) rfl (show (["here", "there", "arcs"] : List Str).Nodup by decide +kernel) rfl rfl (Or.inl rfl) (Or.inl rfl))) (fun _ _ _ _ _ => pif_nil) (fun _ _ _ _ _ => (pe_dget hu (pe_dget hu (pv 2) (pv 0) (fun _ _ => rfl)) (pv 1) (fun _ _ => rfl))) ⟨⟨_, rfl, rfl, .inl rfl⟩, trivial⟩ (hfr := by show ∀ y ∈ (_ : List (Str × NameKind)), y.2 = NameKind.free → (defScope s_least_along).names.lookup y.1 = some NameKind.cell ∨ (defScope s_least_along).names.lookup y.1 = some NameKind.free; decide +kernel)) pa_nil)))), ?_⟩
    refine ⟨_, rfl, _, rfl, _, rfl, b, _, rfl, hB, fun sp hsp => ?_⟩
    have hcut : cutV (w.map V.str) (some 1) none = (w.drop 1).map V.str := by
      unfold cutV
      rw [HT.sIx_none, sIx_of (by decide), List.length_map, ← List.map_drop, ← List.map_take]
      congr 1
      have : min (1 : Int).toNat w.length = 1 := by show min 1 w.length = 1; omega
      rw [this]
      exact List.take_of_length_le (by rw [List.length_drop]; omega)
    rw [hcut]
    have S1 := Same.updN (o := .lst ((w.drop 1).map V.str)) hsp
    have hsp1 : (upd H sp (.lst ((w.drop 1).map V.str))) sp = some (.lst ((w.drop 1).map V.str)) := upd_same
    generalize upd H sp (.lst ((w.drop 1).map V.str)) = H1 at S1 hsp1
    have hmin : min (w.map V.str).length ((w.drop 1).map V.str).length = w.length - 1 := by simp only [List.length_map, List.length_drop]; omega
    refine ⟨b, sp, _, _, rfl, S1.seq hB, SqL.of hsp1, comp_inv (w.length - 1) (fun i ys H2 => Same H1 H2 ∧ i ≤ w.length - 1 ∧ ∃ ms : List Int, ys = ms.map V.int ∧ ms.length = i ∧ ∀ j, j < i → ∃ x y, w[j]? = some x ∧ w[j + 1]? = some y ∧ ms[j]? = some (rc g x y)) ⟨Same.refl _, Nat.zero_le _, [], rfl, rfl, fun j hj => absurd hj (by omega)⟩ (fun i ys H2 pv => ?_) (fun i ys H2 hi pv => ?_) (fun ys H2 pv => ?_)⟩
    · obtain ⟨_, h1, ms, rfl, hl, _⟩ := pv
      rw [List.length_map]; exact szl (by omega)
    · obtain ⟨S2, _, ms, rfl, hl, hms⟩ := pv
      refine ⟨⟨(S1.trans S2).seq hB, SqL.of (S2 _ _ hsp1), by rw [hmin]; exact hi⟩, ?_⟩
      rintro v H3 ⟨pp, x, y, hpp, rfl, hx, hy, rfl⟩
      rw [List.getElem?_map] at hx hy
      rw [List.getElem?_drop] at hy
      cases hx' : w[i]? with
      | none => rw [hx'] at hx; cases hx
      | some x' =>
      rw [hx'] at hx
      cases hx
      cases hy' : w[1 + i]? with
      | none => rw [hy'] at hy; cases hy
      | some y' =>
      rw [hy'] at hy
      cases hy
      have hy'' : w[i + 1]? = some y' := by rw [Nat.add_comm]; exact hy'
      obtain ⟨k1, k2⟩ := hkey i x' y' hx' hy''
      obtain ⟨u, hu'⟩ := Option.isSome_iff_exists.mp k2
      obtain ⟨b1, hb1⟩ := addrOf_some k1
      have S3 := S2.trans (Same.updN (o := .tup [V.str x', V.str y']) hpp)
      have hN3 := hN.sm (S1.trans S3).sm
      refine ⟨pp, _, rfl, SqT.of upd_same, rfl, _, _, rfl, _, _, rfl, rfl, yesI ?_⟩
      refine ⟨_, rfl, _, rfl, a, _, rfl, hN3.dget hb1, _, rfl, b1, _, rfl, hN3.rget' hb1 hu', nxC hi ⟨S3, by omega, ms ++ [u], by rw [List.map_append]; rfl, by simp [hl], fun j hj => ?_⟩⟩
      by_cases hji : j < i
      · obtain ⟨x, y, h1, h2, h3⟩ := hms j hji
        exact ⟨x, y, h1, h2, by rw [List.getElem?_append_left (by omega)]; exact h3⟩
      · have : j = i := by omega
        subst this
        refine ⟨x', y', hx', hy'', ?_⟩
        rw [List.getElem?_append_right (by omega), hl, Nat.sub_self]
        unfold rc
        rw [hu']; rfl
    · obtain ⟨S2, _, ms, rfl, hl, hms⟩ := pv
      refine ⟨⟨(S1.trans S2).seq hB, SqL.of (S2 _ _ hsp1), hmin.symm⟩, fun lp hlp => ⟨lp, ms, rfl, SqL.of upd_same, fun e => by rw [e] at hl; simp at hl; omega, fun m hm hle => q m _ ((S1.trans S2).trans (Same.updN hlp)) (fun i x y hx hy => ?_) ?_⟩⟩
      · have hi : i < w.length - 1 := by have := (List.getElem?_eq_some_iff.mp hy).1; omega
        obtain ⟨x', y', h1, h2, h3⟩ := hms i hi
        rw [hx] at h1
        rw [hy] at h2
        cases h1
        cases h2
        exact hle _ (List.mem_of_getElem? h3)
      · obtain ⟨j, hj⟩ := List.getElem?_of_mem hm
        have hjl : j < w.length - 1 := by have := (List.getElem?_eq_some_iff.mp hj).1; omega
        obtain ⟨x', y', h1, h2, h3⟩ := hms j hjl
        rw [hj] at h3
        exact ⟨j, x', y', h1, h2, Option.some.inj h3⟩
/-! ### the room at first -/
def sp_room : Sp := fun vs H Q _ => ∃ (a : Addr) (bs : Outer) (f : Str → L2.Row), vs = [.ref a] ∧ NetAt H a bs f ∧ RowsIn (bs.map (·.1)) f ∧ bs.length ≤ 12 ∧ ∀ p H' g, NS0 H p (bs.map (·.1)) g H' → RoomOf (bs.map (·.1)) f g → Q (.ref p) H'
theorem ok_room_on (T : Txt K mg t) : FnOk P w K mg base CX0 1 t.room_on t.fd_room_on ["arcs"] sp_room := by
  refine T.f_room_on.fn.ok sc_room_on (fun vs H Q E h => ?_) (fun cdv A outer s H vs Q E hr h => ?_)
  · obtain ⟨a, bs, f, rfl, _⟩ := h; rfl
  · obtain ⟨a, bs, f, rfl, hN, hg, hlen, q⟩ := h
    have hu := hu_of hr
    refine ⟨_, (pss_cons (ps_set (i := 1) sc_room_on.nd rfl (Or.inl rfl) pe_dnewK)
      (pss_cons (ps_forD PassesOwn.never rfl (pv 0) (pg_name (i := 2) sc_room_on.nd rfl (Or.inl rfl))
        (pss_one (ps_dput hu (pv 1) (pv 2) (pe_callTy call_dictOf (by rfl) T.b_dict boot_ty_dict (pa_cons (pe_dget hu (pv 0) (pv 2) (fun _ _ => rfl)) pa_nil)) rfl)))
      (pss_cons (ps_forD PassesOwn.never rfl (pv 0) (pg_name (i := 2) sc_room_on.nd rfl (Or.inl rfl))
        (pss_one (ps_forD PassesOwn.never rfl (pe_dget hu (pv 0) (pv 2) (fun _ _ => rfl)) (pg_name (i := 3) sc_room_on.nd rfl (Or.inl rfl))
        (pss_one (ps_expr (pe_dsetd (pe_dget hu (pv 1) (pv 3) (fun _ _ => rfl)) (pv 2) pe_int ⟨rfl, rfl, rfl, rfl⟩))))))
      (pss_one (ps_ret (pv 1)))))), ?_⟩
    intro p hp
    have pa : a ≠ p := ne_of_none hN.out hp
    have S0 := Same.updN (o := .dK []) hp
    have hN1 := hN.same S0
    refine ⟨_, rfl, a, _, rfl, .inl hN1.out, fun o H2 fz => forDm hN1.out fz (fun i σ H3 => ∃ x2 cs, σ = [some (.ref a), some (.ref p), x2, none] ∧ (∀ b u, b ≠ a → H b = some u → H3 b = some u) ∧ H3 a = some (.frz o (.dK (encO bs))) ∧ NetAt H3 p cs f ∧ cs.map (·.1) = (bs.map (·.1)).take i ∧ New H p cs) (fun e => ?_) (fun _ _ _ h => ?_) (fun i k v σ H3 hk pv => ?_) (fun σ H3 pv => ?_)⟩
    · subst e
      refine ⟨_, [], rfl, fun b u hb e => by rw [upd_ne hb]; exact S0 _ _ e, upd_same, ⟨by rw [upd_ne (Ne.symm pa), upd_same]; rfl, fun _ h => absurd h (by simp), List.nodup_nil, by simp⟩, rfl, hp, fun _ h => absurd h (by simp)⟩
    · obtain ⟨_, _, _, _, h, _⟩ := h; exact h
    · obtain ⟨x2, cs, rfl, hrest, ha, hC, hcs, hnew⟩ := pv
      unfold encO at hk
      rw [List.getElem?_map] at hk
      cases hb : bs[i]? with
      | none => rw [hb] at hk; cases hk
      | some z =>
      rw [hb] at hk
      cases hk
      have hz : z ∈ bs := List.mem_of_getElem? hb
      have had := mem_addrOf hN.ks (x := z.1) (b := z.2) hz
      have hza : z.2 ≠ a := hN.ne had
      have hrow := hrest _ _ hza (hN.inn z hz)
      have hfresh : z.1 ∉ cs.map (·.1) := by rw [hcs]; exact nodup_take hN.ks (by rw [List.getElem?_map, hb]; rfl)
      have hcl : cs.length ≤ 12 := by
        have := congrArg List.length hcs
        rw [List.length_map, List.length_take, List.length_map] at this
        omega
      refine ⟨_, rfl, _, rfl, a, .ref z.2, rfl, .inl ⟨encO bs, Sum.inr z.1, .inr ⟨o, ha⟩, rfl, by rw [valV_encO, had]; rfl⟩, z.2, _, rfl, .inl hrow, fun r2 hr2 => ?_⟩
      obtain ⟨d1, d2⟩ := hC.add2 (x := z.1) hfresh hr2 (szl (by omega))
      have r2a : r2 ≠ a := fun e => by rw [e, ha] at hr2; cases hr2
      refine ⟨_, rfl, _, rfl, p, _, rfl, d1, _, cs ++ [(z.1, r2)], rfl, fun b u hba e => ?_, ?_, d2, ?_, hnew.1, fun y hy => ?_⟩
      · have e3 := hrest b u hba e
        rw [upd_ne (ne_of_none e hp), upd_ne (ne_of_none e3 hr2)]; exact e3
      · rw [upd_ne pa, upd_ne (Ne.symm r2a)]; exact ha
      · rw [List.map_append, hcs, List.take_add_one, List.getElem?_map, hb]; rfl
      · rcases List.mem_append.mp hy with c | c
        · exact hnew.2 y c
        · rw [List.mem_singleton.mp c]
          cases hh : H r2 with
          | none => rfl
          | some u => rw [hrest r2 u r2a hh] at hr2; cases hr2
    · obtain ⟨x2, cs, rfl, hrest, ha, hC, hcs, hnew⟩ := pv
      have el : (encO bs).length = (bs.map (·.1)).length := by unfold encO; simp
      rw [el, List.take_of_length_le (Nat.le_refl _)] at hcs
      have hS : Same H (upd H3 a (.dK (encO bs))) := fun b u e => by
        by_cases hb : b = a
        · subst hb
          rw [upd_same]; rw [hN.out] at e; exact e
        · rw [upd_ne hb]; exact hrest b u hb e
      have hcsa : ∀ z ∈ cs, z.2 ≠ a := fun z hz e => by have := hnew.2 z hz; rw [e, hN.out] at this; cases this
      have hC4 : NetAt (upd H3 a (.dK (encO bs))) p cs f := hC.updo (Ne.symm pa) hcsa
      generalize upd H3 a (.dK (encO bs)) = H4 at hS hC4
      clear hC ha hrest fz
      have hN4 := hN.same hS
      have hnd := hN.ks
      have hcl : cs.length ≤ 12 := by
        have := congrArg List.length hcs
        rw [List.length_map, List.length_map] at this
        omega
      generalize hks : bs.map (·.1) = ks at hg hcs q hnd
      have hkl : ks.length ≤ 12 := by rw [← hks, List.length_map]; exact hlen
      have rinit : RoomI ks f f 0 := RoomI.zero hg
      refine ⟨_, rfl, a, _, rfl, .inl hN4.out, fun o H5 fz => forDm hN4.out fz (fun i σ H6 => ∃ x2 x3 g, σ = [some (.ref a), some (.ref p), x2, x3] ∧ (∀ b u, b ≠ a → H b = some u → H6 b = some u) ∧ H6 a = some (.frz o (.dK (encO bs))) ∧ NetAt H6 p cs g ∧ RoomI ks f g i) (fun e => ?_) (fun _ _ _ h => ?_) (fun i k v σ H6 hk pv => ?_) (fun σ H6 pv => ?_)⟩
      · subst e
        exact ⟨_, _, f, rfl, fun b u hb e => by rw [upd_ne hb]; exact hS _ _ e, upd_same, hC4.updo (Ne.symm pa) hcsa, rinit⟩
      · obtain ⟨_, _, _, _, _, h, _⟩ := h; exact h
      · obtain ⟨x2, x3, g, rfl, hrest, ha, hC, hri⟩ := pv
        unfold encO at hk
        rw [List.getElem?_map] at hk
        cases hb : bs[i]? with
        | none => rw [hb] at hk; cases hk
        | some z =>
        rw [hb] at hk
        cases hk
        have hz : z ∈ bs := List.mem_of_getElem? hb
        have had := mem_addrOf hN.ks (x := z.1) (b := z.2) hz
        have hza : z.2 ≠ a := hN.ne had
        have hrow := hrest _ _ hza (hN.inn z hz)
        have hki : ks[i]? = some z.1 := by rw [← hks, List.getElem?_map, hb]; rfl
        have hzp : z.2 ≠ p := fun e => by have := hN.inn z hz; rw [e, hp] at this; cases this
        have hzc : ∀ y ∈ cs, y.2 ≠ z.2 := fun y hy e => by have := hnew.2 y hy; rw [e, hN.inn z hz] at this; cases this
        have hzm : z.1 ∈ ks := by rw [← hks]; exact List.mem_map.mpr ⟨z, hz, rfl⟩
        refine ⟨_, rfl, _, rfl, a, .ref z.2, rfl, .inl ⟨encO bs, Sum.inr z.1, .inr ⟨o, ha⟩, rfl, by rw [valV_encO, had]; rfl⟩, z.2, _, rfl, .inl hrow, fun o2 H7 fz2 => forDm hrow fz2 (fun j σ H8 => ∃ x3 g, σ = [some (.ref a), some (.ref p), some (.str z.1), x3] ∧ (∀ b u, b ≠ a → b ≠ z.2 → H b = some u → H8 b = some u) ∧ H8 a = some (.frz o (.dK (encO bs))) ∧ H8 z.2 = some (.frz o2 (.dK (encI (f z.1)))) ∧ NetAt H8 p cs g ∧ RoomJ ks f g i z.1 j) (fun e => ?_) (fun _ _ _ h => ?_) (fun j k v σ H8 hk2 pv => ?_) (fun σ H8 pv => ?_)⟩
        · subst e
          exact ⟨_, g, rfl, fun b u hb1 hb2 e => by rw [upd_ne hb2]; exact hrest b u hb1 e, by rw [upd_ne (Ne.symm hza)]; exact ha, upd_same, hC.updo (Ne.symm hzp) hzc, RoomJ.zero hri⟩
        · obtain ⟨_, _, _, _, _, h, _⟩ := h; exact h
        · obtain ⟨x3, g', rfl, hrest8, ha8, hz8, hC8, hrj⟩ := pv
          have hk3 : ∃ e, (f z.1)[j]? = some e ∧ k = Sum.inr e.1 := by
            unfold encI at hk2
            rw [List.getElem?_map] at hk2
            cases he : (f z.1)[j]? with
            | none => rw [he] at hk2; cases hk2
            | some e => rw [he] at hk2; cases hk2; exact ⟨e, rfl, rfl⟩
          obtain ⟨e, he, rfl⟩ := hk3
          have hek : e.1 ∈ (f z.1).map (·.1) := List.mem_map.mpr ⟨e, List.mem_of_getElem? he, rfl⟩
          have hem : e.1 ∈ ks := hg.inn z.1 hzm e.1 hek
          obtain ⟨b2, hb2⟩ := addrOf_some (bs := cs) (x := e.1) (by rw [hcs]; exact hem)
          have hb2m := addrOf_mem hb2
          have hl8 : (g' e.1).length ≤ 12 := Nat.le_trans (hrj.rows.len hem) hkl
          refine ⟨_, rfl, _, rfl, p, _, rfl, hC8.r.dget hb2, b2, rfl, .inl ⟨_, hC8.r.inn _ hb2m⟩, _, rfl, encI (g' e.1), Sum.inr z.1, hC8.inn _ hb2m, rfl, (by rw [encI_len]; exact szl (by omega)), fun _ => ?_⟩
          rw [encI_def]
          refine ⟨_, _, rfl, fun b u h1 h2 e0 => ?_, ?_, ?_, hC8.defr hb2 z.1, hrj.succ he hzm hem⟩
          · rw [upd_ne (ne_of_none e0 (hnew.2 _ hb2m))]; exact hrest8 b u h1 h2 e0
          · rw [upd_ne (Ne.symm (hcsa _ hb2m))]; exact ha8
          · rw [upd_ne (Ne.symm (hzc _ hb2m))]; exact hz8
        · obtain ⟨x3, g', rfl, hrest8, ha8, hz8, hC8, hrj⟩ := pv
          rw [encI_len] at hrj
          refine ⟨_, _, g', rfl, fun b u h1 e0 => ?_, ?_, hC8.updo (Ne.symm hzp) hzc, hrj.last hki hnd⟩
          · by_cases h2 : b = z.2
            · subst h2
              rw [upd_same]
              rw [hN.inn z hz] at e0; exact e0
            · rw [upd_ne h2]; exact hrest8 b u h1 h2 e0
          · rw [upd_ne (Ne.symm hza)]; exact ha8
      · obtain ⟨x2, x3, g, rfl, hrest, ha, hC, hri⟩ := pv
        have el : (encO bs).length = ks.length := by rw [← hks]; unfold encO; simp
        rw [el] at hri
        refine ⟨_, rfl, q p _ g ⟨cs, fun b u e => ?_, hC.updo (Ne.symm pa) hcsa, hcs, hnew⟩ hri.done⟩
        by_cases hb : b = a
        · subst hb
          rw [upd_same]; rw [hN.out] at e; exact e
        · rw [upd_ne hb]; exact hrest b u hb e
end
end K62

set_option Elab.async false
set_option linter.all false
set_option maxRecDepth 100000
set_option maxHeartbeats 4000000
namespace K62
open PySem L2 PySem.Spec PyProof.Rows
section
variable {P : Program} {w : World} {K : PySem.W.Frag} {mg : Str → Option Value} {base : Heap} {t : Adr}
/-! ### all that goes is sent -/
def sp_pushed (K : PySem.W.Frag) : Sp := fun vs H Q _ => ∃ (a b c : Addr) (bs : Outer) (f : Str → L2.Row) (os ts : List Str), vs = [.ref a, .ref b, .ref c] ∧ NetAt H a bs f ∧ RowsIn (bs.map (·.1)) f ∧ (∀ x ∈ bs.map (·.1), ∀ y ∈ bs.map (·.1), 0 ≤ rc f x y) ∧ bs.length ≤ 12 ∧
  SqL K H b (os.map V.str) ∧ os.Nodup ∧ (∀ x ∈ os, x ∈ bs.map (·.1)) ∧ SqL K H c (ts.map V.str) ∧ (∀ x ∈ os, x ∉ ts) ∧
  ∀ p rp H' amount cs g, Same H H' → H p = none → H' p = some (.tup [.int amount, .ref rp]) → NetAt H' rp cs g → cs.map (·.1) = bs.map (·.1) → New H rp cs → RowsIn (bs.map (·.1)) g → (∀ x ∈ bs.map (·.1), ∀ y ∈ bs.map (·.1), (look (f x) y).isSome = true → (look (g x) y).isSome = true) → Flow (bs.map (·.1)) (rc f) (inB os) (inB ts) (rc g) amount →
    (∃ L, Bfs (bs.map (·.1)) (rc g) os L ∧ Done (bs.map (·.1)) (rc g) L L.length ∧ ∀ x ∈ ts, x ∉ L.map (·.1)) → Q (.ref p) H'
theorem ok_pushed_through (T : Txt K mg t) : FnOk P w K mg base CX0 3 t.pushed_through t.fd_pushed_through ["arcs", "ones", "others"] (sp_pushed K) := by
  refine T.f_pushed_through.fn.ok sc_pushed_through (fun vs H Q E h => ?_) (fun cdv A outer s H vs Q E hr h => ?_)
  · obtain ⟨a, b, c, bs, f, os, ts, rfl, _⟩ := h; rfl
  · obtain ⟨a, b, c, bs, f, os, ts, rfl, hN, hg, hnn, hlen, hB, hnd, hos, hC, hdj, q⟩ := h
    have hu := hu_of hr
    have hkn := hN.ks
    refine ⟨_, (pss_cons (ps_set (i := 3) sc_pushed_through.nd rfl (Or.inl rfl) (pe_call (ok_room_on T) (hr.mono (by decide)) rfl T.f_room_on.mg T.f_room_on.kp T.f_room_on.bd .nil pass0 (pa_cons (pv 0) pa_nil)))
      (pss_cons (ps_set (i := 4) sc_pushed_through.nd rfl (Or.inl rfl) pe_int)
      (pss_cons (ps_set (i := 5) sc_pushed_through.nd rfl (Or.inl rfl) (pe_call (ok_shortest_way T) (hr.mono (by decide)) rfl T.f_shortest_way.mg T.f_shortest_way.kp T.f_shortest_way.bd .nil pass0 (pa_cons (pv 3) (pa_cons (pv 1) (pa_cons (pv 2) pa_nil)))))
      (pss_cons (ps_while PassesOwn.never (pt_truth (pv 5) (by intro _; rfl))
        (pss_cons (ps_set (i := 6) sc_pushed_through.nd rfl (Or.inl rfl) (pe_call (ok_least_along T) (hr.mono (by decide)) rfl T.f_least_along.mg T.f_least_along.kp T.f_least_along.bd .nil pass0 (pa_cons (pv 3) (pa_cons (pv 5) pa_nil))))
      (pss_cons (ps_for PassesOwn.never rfl (pi_zip rfl T.b_zip (pa_cons (pv 5) (pa_cons (pe_slice sl_list (pv 5) (po_some pe_int) po_none) pa_nil))) (pg_tup rfl (pgs_cons (pg_name (i := 7) sc_pushed_through.nd rfl (Or.inl rfl)) (pgs_cons (pg_name (i := 8) sc_pushed_through.nd rfl (Or.inl rfl)) pgs_nil)))
        (pss_cons (ps_daug hu (pe_dget hu (pv 3) (pv 7) (fun _ _ => rfl)) (pv 8) (pv 6) in_sub (by intros; rfl))
      (pss_one (ps_daug hu (pe_dget hu (pv 3) (pv 8) (fun _ _ => rfl)) (pv 7) (pv 6) in_add (by intros; rfl)))))
      (pss_cons (ps_aug (i := 4) sc_pushed_through.nd rfl (Or.inl rfl) (pv 6) ip_add)
      (pss_one (ps_set (i := 5) sc_pushed_through.nd rfl (Or.inl rfl) (pe_call (ok_shortest_way T) (hr.mono (by decide)) rfl T.f_shortest_way.mg T.f_shortest_way.kp T.f_shortest_way.bd .nil pass0 (pa_cons (pv 3) (pa_cons (pv 1) (pa_cons (pv 2) pa_nil))))))))))
      (pss_one (ps_ret (pe_tup (pa_cons (pv 4) (pa_cons (pv 3) pa_nil))))))))), ?_⟩
    refine ⟨_, rfl, a, bs, f, rfl, hN, hg, hlen, fun rp H1 g0 hNS hroom => ?_⟩
    obtain ⟨cs, S1, hR1, hcs, hnew⟩ := hNS
    generalize hks : bs.map (·.1) = ks at hg hnn hos q hcs hroom hkn
    have hkl : ks.length ≤ 12 := by rw [← hks, List.length_map]; exact hlen
    have hcl : cs.length ≤ 12 := by
      have := congrArg List.length hcs
      rw [List.length_map] at this; omega
    have dj : ∀ x ∈ ks, inB os x = true → inB ts x = false := fun x _ h => by
      have h : x ∈ os := by simpa [inB] using h
      simpa [inB] using hdj x h
    have sone : Side ks (inB os) (inB ts) (inB os) := ⟨fun x _ h => h, fun x hx h => by
      cases z : inB os x with
      | false => rfl
      | true => rw [dj x hx z] at h; cases h⟩
    have fl0 : Flow ks (rc f) (inB os) (inB ts) (rc g0) 0 := (Flow.start hnn).congr fun x _ y _ => hroom.same x y
    have sym0 : ∀ x ∈ ks, ∀ y ∈ ks, (look (g0 x) y).isSome = (look (g0 y) x).isSome := fun x hx y hy => by rw [hroom.keys x hx y hy, hroom.keys y hy x hx, Bool.or_comm]
    have sup0 : ∀ x ∈ ks, ∀ y ∈ ks, (look (f x) y).isSome = true → (look (g0 x) y).isSome = true := fun x hx y hy h => by rw [hroom.keys x hx y hy, h]; rfl
    refine ⟨_, rfl, _, rfl, _, rfl, rp, b, c, cs, g0, os, ts, rfl, hR1.r, by rw [hcs]; exact hroom.rows, hcl, S1.seq hB, hnd, by rw [hcs]; exact hos, S1.seq hC, fun wp H2 w0 S2 hwp hW2 hsh0 => ?_⟩
    rw [hcs] at hsh0
    generalize hBd : leave ks (rc f) (inB os) = Bd
    refine ⟨fun m σ H3 => ∃ amount wp w g x6 x7 x8, m = (Bd - amount).toNat ∧ σ = [some (.ref a), some (.ref b), some (.ref c), some (.ref rp), some (.int amount), some (.ref wp), x6, x7, x8] ∧ Same H H3 ∧ NetAt H3 rp cs g ∧ RowsIn ks g ∧ (∀ x ∈ ks, ∀ y ∈ ks, (look (g x) y).isSome = (look (g y) x).isSome) ∧ (∀ x ∈ ks, ∀ y ∈ ks, (look (f x) y).isSome = true → (look (g x) y).isSome = true) ∧ Flow ks (rc f) (inB os) (inB ts) (rc g) amount ∧ H3 wp = some (.lst (w.map V.str)) ∧ ShortW ks (rc g) os ts w, ⟨_, 0, wp, w0, g0, _, _, _, rfl, rfl, S1.trans S2, hR1.same S2, hroom.rows, sym0, sup0, fl0, hW2, hsh0⟩, fun m σ H3 pv => ?_⟩
    clear hsh0 hW2 hwp S2 sym0 sup0 fl0 hroom hR1 S1
    obtain ⟨amount, wp, w, g, x6, x7, x8, rfl, rfl, S3, hR3, hrow, hsym, hsup, fl, hW3, hsh⟩ := pv
    refine ⟨_, rfl, _, .inl ⟨_, SqL.of hW3, rfl⟩, ?_⟩
    rcases hsh with ⟨rfl, L, hb, hd, hno⟩ | ⟨k, x0, xk, hx0, hxk, hwl, ho, ht, hwn, hwm, hwr⟩
    · refine iteF ⟨_, rfl, _, rfl, (by show 2 ≤ sizeLine; decide), fun tp htp => q tp rp _ amount cs g (S3.trans (Same.updN htp)) (S3.free htp) upd_same (hR3.same (Same.updN htp)) hcs hnew hrow hsup fl ⟨L, hb, hd, hno⟩⟩
    · have hk1 : 1 ≤ k := by
        rcases Nat.eq_zero_or_pos k with z | z
        · subst z
          rw [hx0] at hxk
          cases hxk
          exact absurd ht (hdj x0 ho)
        · exact z
      have hw12 : w.length ≤ 12 := Nat.le_trans (nd_len hwn hwm) hkl
      have hne : (!(w.map V.str).isEmpty) = true := by
        cases w with
        | nil => simp at hx0
        | cons _ _ => rfl
      rw [hne]
      refine iteT ⟨fun σ' H' => ∃ m', m' < (Bd - amount).toNat ∧ ∃ amount wp w g x6 x7 x8, m' = (Bd - amount).toNat ∧ σ' = [some (.ref a), some (.ref b), some (.ref c), some (.ref rp), some (.int amount), some (.ref wp), x6, x7, x8] ∧ Same H H' ∧ NetAt H' rp cs g ∧ RowsIn ks g ∧ (∀ x ∈ ks, ∀ y ∈ ks, (look (g x) y).isSome = (look (g y) x).isSome) ∧ (∀ x ∈ ks, ∀ y ∈ ks, (look (f x) y).isSome = true → (look (g x) y).isSome = true) ∧ Flow ks (rc f) (inB os) (inB ts) (rc g) amount ∧ H' wp = some (.lst (w.map V.str)) ∧ ShortW ks (rc g) os ts w, fun _ _ h => h, ?_⟩
      have pos_some : ∀ x y, 0 < rc g x y → (look (g x) y).isSome = true := fun x y h => by
        unfold rc at h
        cases z : look (g x) y with
        | none => rw [z] at h; simp at h
        | some v => rfl
      refine ⟨_, rfl, _, rfl, rp, wp, cs, g, w, rfl, hR3.r, SqL.of hW3, by omega, hw12, (fun i x y hx hy => ⟨by rw [hcs]; exact hwm x (List.mem_of_getElem? hx), pos_some x y (hwr i x y hx hy)⟩), fun many H4 S4 hle hex => ?_⟩
      have hm1 : 1 ≤ many := by
        obtain ⟨i, x, y, h1, h2, rfl⟩ := hex
        have := hwr i x y h1 h2
        omega
      have way : WayOk ks (rc g) many w := ⟨hwm, hwn, hle⟩
      have hW4 := S4 _ _ hW3
      have hR4 := hR3.same S4
      have T4 := S3.trans S4
      refine ⟨_, rfl, _, rfl, _, rfl, wp, _, rfl, SqL.of hW4, fun sp hsp => ?_⟩
      have hcut : cutV (w.map V.str) (some 1) none = (w.drop 1).map V.str := by
        unfold cutV
        rw [HT.sIx_none, sIx_of (by decide), List.length_map, ← List.map_drop, ← List.map_take]
        congr 1
        have : min (1 : Int).toNat w.length = 1 := by show min 1 w.length = 1; omega
        rw [this]
        exact List.take_of_length_le (by rw [List.length_drop]; omega)
      rw [hcut]
      have S5 := Same.updN (o := .lst ((w.drop 1).map V.str)) hsp
      have hsp5 : (upd H4 sp (.lst ((w.drop 1).map V.str))) sp = some (.lst ((w.drop 1).map V.str)) := upd_same
      generalize upd H4 sp (.lst ((w.drop 1).map V.str)) = H5 at S5 hsp5
      have hW5 := S5 _ _ hW4
      have hR5 := hR4.same S5
      have T5 := T4.trans S5
      have hmin : min (w.map V.str).length ((w.drop 1).map V.str).length = k := by simp only [List.length_map, List.length_drop]; omega
      refine ⟨wp, sp, _, _, rfl, SqL.of hW5, SqL.of hsp5, for_zip (K := K) (fun i σ H6 => ∃ x7 x8 gi, σ = [some (.ref a), some (.ref b), some (.ref c), some (.ref rp), some (.int amount), some (.ref wp), some (.int many), x7, x8] ∧ Same H H6 ∧ H6 wp = some (.lst (w.map V.str)) ∧ H6 sp = some (.lst ((w.drop 1).map V.str)) ∧ NetAt H6 rp cs gi ∧ RowsIn ks gi ∧ (∀ x y, (look (gi x) y).isSome = (look (g x) y).isSome) ∧ ∀ x y, rc gi x y = pushN (rc g) many w i x y) ⟨_, _, g, rfl, T5, hW5, hsp5, hR5, hrow, fun _ _ => rfl, fun _ _ => rfl⟩ (fun i σ H6 _ pv => ?_) (fun i x y pp σ H6 hx hy pv hpp => ?_) (fun σ H6 pv => ?_)⟩
      · obtain ⟨_, _, _, rfl, _, h1, h2, _⟩ := pv
        exact ⟨SqL.of h1, SqL.of h2⟩
      · obtain ⟨x7, x8, gi, rfl, S6, hW6, hsp6, hR6, hrow6, hk6, hrc6⟩ := pv
        rw [List.getElem?_map] at hx hy
        rw [List.getElem?_drop] at hy
        cases hx' : w[i]? with
        | none => rw [hx'] at hx; cases hx
        | some x' =>
        rw [hx'] at hx
        cases hx
        cases hy' : w[1 + i]? with
        | none => rw [hy'] at hy; cases hy
        | some y' =>
        rw [hy'] at hy
        cases hy
        have hy'' : w[i + 1]? = some y' := by rw [Nat.add_comm]; exact hy'
        have mx := hwm x' (List.mem_of_getElem? hx')
        have my := hwm y' (List.mem_of_getElem? hy'')
        have hxy : x' ≠ y' := fun e => by
          subst e
          have := nd_ix hwn hx' hy''
          omega
        obtain ⟨b1, hb1⟩ := addrOf_some (bs := cs) (x := x') (by rw [hcs]; exact mx)
        obtain ⟨b2, hb2⟩ := addrOf_some (bs := cs) (x := y') (by rw [hcs]; exact my)
        have s1 : (look (gi x') y').isSome = true := by rw [hk6]; exact pos_some _ _ (hwr i x' y' hx' hy'')
        have s2 : (look (gi y') x').isSome = true := by rw [hk6, ← hsym x' mx y' my]; exact pos_some _ _ (hwr i x' y' hx' hy'')
        obtain ⟨v1, hv1⟩ := Option.isSome_iff_exists.mp s1
        obtain ⟨v2, hv2⟩ := Option.isSome_iff_exists.mp s2
        have S7 := Same.updN (o := .tup [V.str x', V.str y']) hpp
        have hR7 := hR6.same S7
        have T7 := S6.trans S7
        have hW7 := S7 _ _ hW6
        have hsp7 := S7 _ _ hsp6
        refine ⟨pp, _, rfl, SqT.of upd_same, rfl, _, _, rfl, _, _, rfl, rfl, ?_⟩
        generalize upd H6 pp (.tup [V.str x', V.str y']) = H7 at S7 hR7 T7 hW7 hsp7
        have rl : ∀ z, z ∈ ks → (gi z).length < sizeLine := fun z hz => szl (by have := hrow6.len hz; omega)
        obtain ⟨p1, p2⟩ := hR7.put hb1 (v1 - many) y' (rl _ mx)
        refine ⟨_, rfl, _, rfl, rp, _, rfl, hR7.r.dget hb1, _, rfl, b1, _, rfl, hR7.r.rget' hb1 hv1, _, rfl, _, _, rfl, rfl, _, p1, ?_⟩
        have hv2' : look (putR gi x' y' (v1 - many) y') x' = some v2 := by rw [putR_ne (Ne.symm hxy)]; exact hv2
        obtain ⟨p3, p4⟩ := p2.put hb2 (v2 + many) x' (by rw [putR_ne (Ne.symm hxy)]; exact rl _ my)
        refine ⟨_, rfl, _, rfl, rp, _, rfl, p2.r.dget hb2, _, rfl, b2, _, rfl, p2.r.rget' hb2 hv2', _, rfl, _, _, rfl, rfl, _, p3, ?_⟩
        have hlist : ∀ {q : Addr} {zs : List V} {bb : Addr} {l : List (Key × V)} {Hx : Hp}, Hx q = some (.lst zs) → Hx bb = some (.dK l) → q ≠ bb := fun h1 h2 => ne_of h1 h2 (by intro z; cases z)
        have n1 := hR7.inn _ (addrOf_mem hb1)
        have n2 := hR7.inn _ (addrOf_mem hb2)
        refine ⟨_, _, putR (putR gi x' y' (v1 - many)) y' x' (v2 + many), rfl, Same.netput (Same.netput T7 hnew hb1) hnew hb2, ?_, ?_, p4, (hrow6.putR mx my).putR my mx, fun aa bb => ?_, fun aa bb => ?_⟩
        · rw [upd_ne (hlist hW7 n2), upd_ne (hlist hW7 n1)]; exact hW7
        · rw [upd_ne (hlist hsp7 n2), upd_ne (hlist hsp7 n1)]; exact hsp7
        · rw [some_putR (by rw [hv2']; rfl), some_putR s1]; exact hk6 aa bb
        · have e1 : rc gi x' y' = v1 := by unfold rc; rw [hv1]; rfl
          have e2 : rc gi y' x' = v2 := by unfold rc; rw [hv2]; rfl
          rw [pushN_succ hx' hy'', rc_putR, rc_putR]
          unfold pushF
          rw [← hrc6 aa bb]
          by_cases z1 : aa = y' ∧ bb = x'
          · have z2 : ¬ (aa = x' ∧ bb = y') := fun z => hxy (z.1.symm.trans z1.1)
            rw [if_pos z1, if_neg z2, if_pos z1, z1.1, z1.2, e2]
          · rw [if_neg z1]
            by_cases z2 : aa = x' ∧ bb = y'
            · rw [if_pos z2, if_pos z2, z2.1, z2.2, e1]
            · rw [if_neg z2, if_neg z2, if_neg z1]
      · obtain ⟨x7, x8, gi, rfl, S6, hW6, hsp6, hR6, hrow6, hk6, hrc6⟩ := pv
        rw [hmin] at hrc6
        have fl2 : Flow ks (rc f) (inB os) (inB ts) (rc gi) (amount + many) := (fl.push hkn dj way (by omega) hx0 hxk (by simpa [inB] using ho) (by simpa [inB] using ht)).congr fun x _ y _ => hrc6 x y
        have hbd := fl2.weak sone
        rw [hBd] at hbd
        refine ⟨_, rfl, _, rfl, _, _, rfl, rfl, ?_⟩
        refine ⟨_, rfl, _, rfl, _, rfl, rp, b, c, cs, gi, os, ts, rfl, hR6.r, by rw [hcs]; exact hrow6, hcl, S6.seq hB, hnd, by rw [hcs]; exact hos, S6.seq hC, fun wp2 H8 w2 S8 hwp2 hW8 hsh2 => ?_⟩
        rw [hcs] at hsh2
        exact ⟨(Bd - (amount + many)).toNat, by omega, amount + many, wp2, w2, gi, _, _, _, rfl, rfl, S6.trans S8, hR6.same S8, hrow6, (fun x hx y hy => by rw [hk6, hk6]; exact hsym x hx y hy), (fun x hx y hy h => by rw [hk6]; exact hsup x hx y hy h), fl2, hW8, hsh2⟩
/-! ### the least side -/
def sp_ls (K : PySem.W.Frag) : Sp := fun vs H Q _ => ∃ (a b c : Addr) (bs : Outer) (f : Str → L2.Row) (os ts : List Str), vs = [.ref a, .ref b, .ref c] ∧ NetAt H a bs f ∧ RowsIn (bs.map (·.1)) f ∧ (∀ x ∈ bs.map (·.1), ∀ y ∈ bs.map (·.1), 0 ≤ rc f x y) ∧ bs.length ≤ 12 ∧
  SqL K H b (os.map V.str) ∧ os.Nodup ∧ (∀ x ∈ os, x ∈ bs.map (·.1)) ∧ SqL K H c (ts.map V.str) ∧ (∀ x ∈ os, x ∉ ts) ∧
  ∀ p sp H' amount R, Same H H' → H p = none → H sp = none → H' p = some (.tup [.int amount, .ref sp]) → H' sp = some (.lst ((sortS R).map V.str)) → R.Nodup → LeastS (bs.map (·.1)) (rc f) os ts amount R → Q (.ref p) H'
theorem ok_least_side (T : Txt K mg t) : FnOk P w K mg base CX0 4 t.least_side t.fd_least_side ["arcs", "ones", "others"] (sp_ls K) := by
  refine T.f_least_side.fn.ok sc_least_side (fun vs H Q E h => ?_) (fun cdv A outer s H vs Q E hr h => ?_)
  · obtain ⟨a, b, c, bs, f, os, ts, rfl, _⟩ := h; rfl
  · obtain ⟨a, b, c, bs, f, os, ts, rfl, hN, hg, hnn, hlen, hB, hnd, hos, hC, hdj, q⟩ := h
    refine ⟨_, (pss_cons (ps_set (i := 3) sc_least_side.nd rfl (Or.inl rfl) (pe_call (ok_pushed_through T) (hr.mono (by decide)) rfl T.f_pushed_through.mg T.f_pushed_through.kp T.f_pushed_through.bd .nil pass0 (pa_cons (pv 0) (pa_cons (pv 1) (pa_cons (pv 2) pa_nil)))))
      (pss_one (ps_ret (pe_tup (pa_cons (pe_ix ix_tup (pv 3) pe_int (fun _ _ => rfl)) (pa_cons (pe_callB call_sortedD (by rfl) T.b_sorted boot_sorted (pa_cons (pe_call (ok_reached_from T) (hr.mono (by decide)) rfl T.f_reached_from.mg T.f_reached_from.kp T.f_reached_from.bd .nil pass0 (pa_cons (pe_ix ix_tup (pv 3) pe_int (fun _ _ => rfl)) (pa_cons (pv 1) pa_nil))) pa_nil)) pa_nil)))))), ?_⟩
    refine ⟨_, rfl, _, rfl, _, rfl, a, b, c, bs, f, os, ts, rfl, hN, hg, hnn, hlen, hB, hnd, hos, hC, hdj, fun p rp H1 amount cs g S1 hp hP hR hcs hnew hrow _ fl hL => ?_⟩
    obtain ⟨L0, hb0, hd0, hn0⟩ := hL
    have hcl : cs.length ≤ 12 := by
      have := congrArg List.length hcs
      rw [List.length_map, List.length_map] at this; omega
    have hkl : (bs.map (·.1)).length ≤ 12 := by rw [List.length_map]; exact hlen
    refine ⟨_, rfl, p, _, 0, _, rfl, rfl, SqT.of hP, rfl, _, rfl, p, _, 1, _, rfl, rfl, SqT.of hP, rfl, _, rfl, rp, b, cs, g, os, rfl, hR.r, by rw [hcs]; exact hrow, hcl, S1.seq hB, hnd, by rw [hcs]; exact hos, fun ap H2 L S2 hap hA hb hd => ?_⟩
    rw [hcs] at hb hd
    have hLl := hb.len
    have hks : keysS (ahK L) (L.map (·.1)) := by unfold keysS ahK; simp
    refine ⟨rfl, ap, _, L.map (·.1), rfl, .inl hA, hks, by rw [List.length_map]; omega, fun sp hsp => ⟨(by show 2 ≤ sizeLine; decide), fun tp htp => ?_⟩⟩
    have S3 := (S1.trans S2).trans (Same.updN (o := .lst ((sortS (L.map (·.1))).map V.str)) hsp)
    have hst : sp ≠ tp := fun e => by rw [← e, upd_same] at htp; cases htp
    exact q tp sp _ amount (L.map (·.1)) (S3.trans (Same.updN htp)) (S3.free htp) ((S1.trans S2).free hsp) upd_same (by rw [upd_ne hst, upd_same]) hb.nd (least_of hos fl hb0 hd0 hn0 hb hd)
end
end K62

set_option Elab.async false
set_option linter.all false
set_option maxRecDepth 100000
set_option maxHeartbeats 4000000
namespace K62
open PySem L2 PySem.Spec PyProof.Rows
section
variable {P : Program} {w : World} {K : PySem.W.Frag} {mg : Str → Option Value} {base : Heap} {t : Adr}
/-! ### a copy of a net -/
def sp_copied : Sp := fun vs H Q _ => ∃ (a : Addr) (bs : Outer) (f : Str → L2.Row), vs = [.ref a] ∧ NetAt H a bs f ∧ bs.length ≤ 12 ∧ ∀ p H', NS0 H p (bs.map (·.1)) f H' → Q (.ref p) H'
theorem ok_l_copied (T : Txt K mg t) : FnOk P w K mg base CX0 1 t.l_copied t.fd_l_copied ["_law_net_here"] sp_copied := by
  refine T.f_l_copied.fn.ok sc_l_copied (fun vs H Q E h => ?_) (fun cdv A outer s H vs Q E hr h => ?_)
  · obtain ⟨a, bs, f, rfl, _⟩ := h; rfl
  · obtain ⟨a, bs, f, rfl, hN, hlen, q⟩ := h
    have hu := hu_of hr
    refine ⟨_, (pss_cons (ps_set (i := 1) sc_l_copied.nd rfl (Or.inl rfl) pe_dnewK)
      (pss_cons (ps_forD PassesOwn.never rfl (pv 0) (pg_name (i := 2) sc_l_copied.nd rfl (Or.inl rfl))
        (pss_one (ps_dput hu (pv 1) (pv 2) (pe_callTy call_dictOf (by rfl) T.b_dict boot_ty_dict (pa_cons (pe_dget hu (pv 0) (pv 2) (fun _ _ => rfl)) pa_nil)) rfl)))
      (pss_one (ps_ret (pv 1))))), ?_⟩
    intro p hp
    have pa : a ≠ p := ne_of_none hN.out hp
    have S0 := Same.updN (o := .dK []) hp
    have hN1 := hN.same S0
    refine ⟨_, rfl, a, _, rfl, .inl hN1.out, fun o H2 fz => forDm hN1.out fz (fun i σ H3 => ∃ x2 cs, σ = [some (.ref a), some (.ref p), x2] ∧ (∀ b u, b ≠ a → H b = some u → H3 b = some u) ∧ H3 a = some (.frz o (.dK (encO bs))) ∧ NetAt H3 p cs f ∧ cs.map (·.1) = (bs.map (·.1)).take i ∧ New H p cs) (fun e => ?_) (fun _ _ _ h => ?_) (fun i k v σ H3 hk pv => ?_) (fun σ H3 pv => ?_)⟩
    · subst e
      refine ⟨_, [], rfl, fun b u hb e => by rw [upd_ne hb]; exact S0 _ _ e, upd_same, ⟨by rw [upd_ne (Ne.symm pa), upd_same]; rfl, fun _ h => absurd h (by simp), List.nodup_nil, by simp⟩, rfl, hp, fun _ h => absurd h (by simp)⟩
    · obtain ⟨_, _, _, _, h, _⟩ := h; exact h
    · obtain ⟨x2, cs, rfl, hrest, ha, hC, hcs, hnew⟩ := pv
      unfold encO at hk
      rw [List.getElem?_map] at hk
      cases hb : bs[i]? with
      | none => rw [hb] at hk; cases hk
      | some z =>
      rw [hb] at hk
      cases hk
      have hz : z ∈ bs := List.mem_of_getElem? hb
      have had := mem_addrOf hN.ks (x := z.1) (b := z.2) hz
      have hza : z.2 ≠ a := hN.ne had
      have hrow := hrest _ _ hza (hN.inn z hz)
      have hfresh : z.1 ∉ cs.map (·.1) := by rw [hcs]; exact nodup_take hN.ks (by rw [List.getElem?_map, hb]; rfl)
      have hcl : cs.length ≤ 12 := by
        have := congrArg List.length hcs
        rw [List.length_map, List.length_take, List.length_map] at this
        omega
      refine ⟨_, rfl, _, rfl, a, .ref z.2, rfl, .inl ⟨encO bs, Sum.inr z.1, .inr ⟨o, ha⟩, rfl, by rw [valV_encO, had]; rfl⟩, z.2, _, rfl, .inl hrow, fun r2 hr2 => ?_⟩
      obtain ⟨d1, d2⟩ := hC.add2 (x := z.1) hfresh hr2 (szl (by omega))
      have r2a : r2 ≠ a := fun e => by rw [e, ha] at hr2; cases hr2
      refine ⟨_, rfl, _, rfl, p, _, rfl, d1, _, cs ++ [(z.1, r2)], rfl, fun b u hba e => ?_, ?_, d2, ?_, hnew.1, fun y hy => ?_⟩
      · have e3 := hrest b u hba e
        rw [upd_ne (ne_of_none e hp), upd_ne (ne_of_none e3 hr2)]; exact e3
      · rw [upd_ne pa, upd_ne (Ne.symm r2a)]; exact ha
      · rw [List.map_append, hcs, List.take_add_one, List.getElem?_map, hb]; rfl
      · rcases List.mem_append.mp hy with c | c
        · exact hnew.2 y c
        · rw [List.mem_singleton.mp c]
          cases hh : H r2 with
          | none => rfl
          | some u => rw [hrest r2 u r2a hh] at hr2; cases hr2
    · obtain ⟨x2, cs, rfl, hrest, ha, hC, hcs, hnew⟩ := pv
      have el : (encO bs).length = (bs.map (·.1)).length := by unfold encO; simp
      rw [el, List.take_of_length_le (Nat.le_refl _)] at hcs
      refine ⟨_, rfl, q p _ ⟨cs, fun b u e => ?_, ?_, hcs, hnew⟩⟩
      · by_cases hb : b = a
        · subst hb
          rw [upd_same]; rw [hN.out] at e; exact e
        · rw [upd_ne hb]; exact hrest b u hb e
      · exact hC.updo (Ne.symm pa) fun z hz e => by have := hnew.2 z hz; rw [e, hN.out] at this; cases this
end
end K62

set_option Elab.async false
set_option linter.all false
set_option maxRecDepth 100000
set_option maxHeartbeats 4000000
namespace K62
open PySem L2 PySem.Spec PyProof.Rows
section
variable {P : Program} {w : World} {K : PySem.W.Frag} {mg : Str → Option Value} {base : Heap} {t : Adr}
/-! ### numbers of arcs -/
def sp_numon : Sp := fun vs H Q _ => ∃ (a : Addr) (bs : Outer) (f : Str → L2.Row) (x y : Str), vs = [.ref a, .str x, .str y] ∧ NetR H a bs f ∧ x ∈ bs.map (·.1) ∧ Q (.int (rc f x y)) H
theorem ok_number_on (T : Txt K mg t) : FnOk P w K mg base CX0 1 t.number_on t.fd_number_on ["arcs", "here", "there"] sp_numon := by
  refine T.f_number_on.fn.ok sc_number_on (fun vs H Q E h => ?_) (fun cdv A outer s H vs Q E hr h => ?_)
  · obtain ⟨a, bs, f, x, y, rfl, _⟩ := h; rfl
  · obtain ⟨a, bs, f, x, y, rfl, hN, hx, q⟩ := h
    have hu := hu_of hr
    refine ⟨_, (pss_one (ps_ret (pe_dget2 hu (pe_dget hu (pv 0) (pv 1) (fun _ _ => rfl)) (pv 2) pe_int ⟨rfl, rfl, rfl, rfl⟩))), ?_⟩
    obtain ⟨b1, hb1⟩ := addrOf_some (bs := bs) (x := x) hx
    refine ⟨_, rfl, _, rfl, a, _, rfl, hN.dget hb1, b1, rfl, .inl ⟨_, hN.inn _ (addrOf_mem hb1)⟩, _, rfl, _, hN.rget hb1, ?_⟩
    have : ((look (f x) y).map V.int).getD (.int 0) = .int (rc f x y) := by
      unfold rc
      cases look (f x) y <;> rfl
    rw [this]
    exact q
/-! ### one-way -/
def wayB (ks ls : List Str) (f g : Str → L2.Row) : Bool := decide (sortS ls = sortS ks) && ks.all fun x => ks.all fun y => decide (rc g x y + rc g y x = rc f x y)
theorem enc_at {bs : Outer} {i : Nat} {k : Key} {v : V} (hk : (encO bs)[i]? = some (k, v)) : ∃ z, bs[i]? = some z ∧ k = Sum.inr z.1 ∧ v = .ref z.2 := by
  unfold encO at hk
  rw [List.getElem?_map] at hk
  cases e : bs[i]? with
  | none => rw [e] at hk; cases hk
  | some z => rw [e] at hk; cases hk; exact ⟨z, rfl, rfl, rfl⟩
theorem all_take {α : Type} {l : List α} {p : α → Bool} {i : Nat} (h : (l.take i).all p = true) {x : α} (hx : l[i]? = some x) : (l.take (i + 1)).all p = p x := by
  rw [List.take_add_one, hx, List.all_append, h]; simp
theorem all_false {α : Type} {l : List α} {p : α → Bool} {x : α} (hx : x ∈ l) (h : p x = false) : l.all p = false := by
  apply Bool.eq_false_iff.mpr
  intro c
  rw [List.all_eq_true] at c
  rw [c x hx] at h; cases h
def sp_oneway : Sp := fun vs H Q _ => ∃ (a c : Addr) (bs ds : Outer) (f g : Str → L2.Row), vs = [.ref a, .ref c] ∧ NetR H a bs f ∧ NetR H c ds g ∧ bs.length ≤ 12 ∧ ds.length ≤ 13 ∧ ∀ H', Same H H' → Q (.bl (wayB (bs.map (·.1)) (ds.map (·.1)) f g)) H'
theorem ok_is_one_way (T : Txt K mg t) : FnOk P w K mg base CX0 2 t.is_one_way t.fd_is_one_way ["net", "arcs"] sp_oneway := by
  refine T.f_is_one_way.fn.ok sc_is_one_way (fun vs H Q E h => ?_) (fun cdv A outer s H vs Q E hr h => ?_)
  · obtain ⟨a, c, bs, ds, f, g, rfl, _⟩ := h; rfl
  · obtain ⟨a, c, bs, ds, f, g, rfl, hN, hM, hl1, hl2, q⟩ := h
    have hu := hu_of hr
    refine ⟨_, (pss_cons (ps_if (pt_cmpR (op_neSs hu) (pe_callB call_sortedD (by rfl) T.b_sorted boot_sorted (pa_cons (pv 1) pa_nil)) (pe_callB call_sortedD (by rfl) T.b_sorted boot_sorted (pa_cons (pv 0) pa_nil)) (nomark _))
        (pss_one (ps_ret pe_bl))
        pss_nil)
      (pss_cons (ps_forD PassesOwn.never rfl (pv 0) (pg_name (i := 2) sc_is_one_way.nd rfl (Or.inl rfl))
        (pss_one (ps_forD PassesOwn.never rfl (pv 0) (pg_name (i := 3) sc_is_one_way.nd rfl (Or.inl rfl))
        (pss_one (ps_if (pt_cmpR op_ne (pe_op op_add (pe_call (ok_number_on T) (hr.mono (by decide)) rfl T.f_number_on.mg T.f_number_on.kp T.f_number_on.bd .nil pass0 (pa_cons (pv 1) (pa_cons (pv 2) (pa_cons (pv 3) pa_nil)))) (pe_call (ok_number_on T) (hr.mono (by decide)) rfl T.f_number_on.mg T.f_number_on.kp T.f_number_on.bd .nil pass0 (pa_cons (pv 1) (pa_cons (pv 3) (pa_cons (pv 2) pa_nil))))) (pe_call (ok_number_on T) (hr.mono (by decide)) rfl T.f_number_on.mg T.f_number_on.kp T.f_number_on.bd .nil pass0 (pa_cons (pv 0) (pa_cons (pv 2) (pa_cons (pv 3) pa_nil)))) (nomark _))
        (pss_one (ps_ret pe_bl))
        pss_nil)))))
      (pss_one (ps_ret pe_bl)))), ?_⟩
    refine ⟨_, rfl, rfl, c, _, ds.map (·.1), rfl, hM.out, hM.keys, by rw [List.length_map]; omega, fun p1 hp1 => ?_⟩
    have S1 := Same.updN (o := .lst ((sortS (ds.map (·.1))).map V.str)) hp1
    refine ⟨_, rfl, rfl, a, _, bs.map (·.1), rfl, (hN.sm S1.sm).out, hN.keys, by rw [List.length_map]; omega, fun p2 hp2 => ?_⟩
    have S2 := Same.updN (o := .lst ((sortS (bs.map (·.1))).map V.str)) hp2
    refine ⟨p1, p2, _, _, rfl, rfl, SqL.of (S2 _ _ upd_same), SqL.of upd_same, _, rfl, iteB (fun h => ?_) (fun h => ?_)⟩
    · have h : sortS (ds.map (·.1)) ≠ sortS (bs.map (·.1)) := by simpa using h
      have e : wayB (bs.map (·.1)) (ds.map (·.1)) f g = false := by unfold wayB; rw [decide_eq_false h]; rfl
      rw [e] at q
      exact q _ (S1.trans S2)
    · have h : sortS (ds.map (·.1)) = sortS (bs.map (·.1)) := by simpa using h
      have hsub : ∀ x ∈ bs.map (·.1), x ∈ ds.map (·.1) := fun x hx => by
        have := mem_sortS.mpr hx
        rw [← h] at this
        exact mem_sortS.mp this
      have S12 := S1.trans S2
      have hN2 := hN.sm S12.sm
      have hM2 := hM.sm S12.sm
      generalize upd (upd H p1 (.lst ((sortS (ds.map (·.1))).map V.str))) p2 (.lst ((sortS (bs.map (·.1))).map V.str)) = H2 at S12 hN2 hM2 ⊢
      have hcl : ∀ (p : Bool), (bs.map (·.1)).all (fun x => (bs.map (·.1)).all fun y => decide (rc g x y + rc g y x = rc f x y)) = p → wayB (bs.map (·.1)) (ds.map (·.1)) f g = p := fun p hp => by unfold wayB; rw [hp, decide_eq_true h]; rfl
      clear S1 S2 hp1 hp2
      refine ⟨_, rfl, a, _, rfl, hN2.out, fun o H3 fz => forD hN2.out fz (fun i σ H4 => ∃ x2 x3, σ = [some (.ref a), some (.ref c), x2, x3] ∧ ((bs.map (·.1)).take i).all (fun x => (bs.map (·.1)).all fun y => decide (rc g x y + rc g y x = rc f x y)) = true) ⟨_, _, rfl, rfl⟩ (fun i σ H4 H5 e pv => pv) (fun i k v σ H4 hk fs pv => ?_) (fun σ H4 S4 pv => ?_)⟩
      · obtain ⟨x2, x3, rfl, hall⟩ := pv
        obtain ⟨z, hzi, rfl, rfl⟩ := enc_at hk
        have hzk : (bs.map (·.1))[i]? = some z.1 := by rw [List.getElem?_map, hzi]; rfl
        have hzm := List.mem_of_getElem? hzk
        have hN4 := hN2.sm (fs.sm hN2.out)
        have hM4 := hM2.sm (fs.sm hN2.out)
        refine ⟨_, rfl, a, _, rfl, hN4.out, fun o2 H5 fz2 => forD hN4.out fz2 (fun j σ H6 => ∃ x3, σ = [some (.ref a), some (.ref c), some (.str z.1), x3] ∧ ((bs.map (·.1)).take j).all (fun y => decide (rc g z.1 y + rc g y z.1 = rc f z.1 y)) = true) ⟨_, rfl, rfl⟩ (fun i σ H4 H5 e pv => pv) (fun j k2 v2 σ H6 hk2 fs2 pv => ?_) (fun σ H6 S6 pv => ?_)⟩
        · obtain ⟨x3, rfl, hall2⟩ := pv
          obtain ⟨y, hyi, rfl, rfl⟩ := enc_at hk2
          have hyk : (bs.map (·.1))[j]? = some y.1 := by rw [List.getElem?_map, hyi]; rfl
          have hym := List.mem_of_getElem? hyk
          have hN6 := hN4.sm (fs2.sm hN4.out)
          have hM6 := hM4.sm (fs2.sm hN4.out)
          refine ⟨_, rfl, _, rfl, _, rfl, c, ds, g, z.1, y.1, rfl, hM6, hsub _ hzm, _, rfl, _, rfl, _, rfl, c, ds, g, y.1, z.1, rfl, hM6, hsub _ hym, _, _, rfl, rfl, _, rfl, _, rfl, _, rfl, a, bs, f, z.1, y.1, rfl, hN6, hzm, rfl, _, rfl, iteB (fun hb => ?_) (fun hb => ?_)⟩
          · have hb : ¬ (rc g z.1 y.1 + rc g y.1 z.1 = rc f z.1 y.1) := by simpa using hb
            refine thaw_rt hN4.out fz2 fs2 fun H7 s7 _ => thaw_rt hN2.out fz (fs.same s7) fun H8 s8 _ => ?_
            rw [hcl false (all_false hzm (all_false hym (decide_eq_false hb)))] at q
            exact q H8 (S12.trans s8)
          · refine ⟨fs2, _, rfl, ?_⟩
            rw [all_take hall2 hyk]
            simpa using hb
        · obtain ⟨x3, rfl, hall2⟩ := pv
          refine ⟨fs.same S6, _, _, rfl, ?_⟩
          rw [all_take hall hzk]
          have el : (encO bs).length = (bs.map (·.1)).length := by unfold encO; simp
          rw [el, List.take_length] at hall2
          exact hall2
      · obtain ⟨x2, x3, rfl, hall⟩ := pv
        have el : (encO bs).length = (bs.map (·.1)).length := by unfold encO; simp
        rw [el, List.take_length] at hall
        rw [hcl true hall] at q
        exact q H4 (S12.trans S4)
/-! ### k kept each way -/
def KeepsK (ks : List Str) (c : Fl) (k : Int) : Prop := ∀ S : Str → Bool, (∃ x ∈ ks, S x = true) → (∃ y ∈ ks, S y = false) → k ≤ leave ks c S
theorem Side.two {ks : List Str} {x y : Str} {S : Str → Bool} (h1 : S x = true) (h2 : S y = false) : Side ks (inB [x]) (inB [y]) S :=
  ⟨fun z _ h => by have : z = x := by simpa [inB] using h
                   rw [this]; exact h1, fun z _ h => by have : z = y := by simpa [inB] using h
                                                        rw [this]; exact h2⟩
theorem LeastS.keeps {ks : List Str} {c : Fl} {x y : Str} {k amount : Int} {R : List Str} (h : LeastS ks c [x] [y] amount R) (hx : x ∈ ks) (hy : y ∈ ks) (hk : KeepsK ks c k) : k ≤ amount := by
  rw [← h.eq]
  exact hk _ ⟨x, hx, h.side.has x hx (by simp [inB])⟩ ⟨y, hy, h.side.lacks y hy (by simp [inB])⟩
def sp_keeps : Sp := fun vs H Q _ => ∃ (a : Addr) (bs : Outer) (f : Str → L2.Row) (k : Int), vs = [.ref a, .int k] ∧ NetAt H a bs f ∧ RowsIn (bs.map (·.1)) f ∧ (∀ x ∈ bs.map (·.1), ∀ y ∈ bs.map (·.1), 0 ≤ rc f x y) ∧ bs.length ≤ 12 ∧ ∀ H' b, Same H H' → (b = true ↔ KeepsK (bs.map (·.1)) (rc f) k) → Q (.bl b) H'
theorem ok_keeps_each_way (T : Txt K mg t) : FnOk P w K mg base CX0 6 t.keeps_each_way t.fd_keeps_each_way ["arcs", "k"] sp_keeps := by
  refine T.f_keeps_each_way.fn.ok sc_keeps_each_way (fun vs H Q E h => ?_) (fun cdv A outer s H vs Q E hr h => ?_)
  · obtain ⟨a, bs, f, k, rfl, _⟩ := h; rfl
  · obtain ⟨a, bs, f, k, rfl, hN, hg, hnn, hlen, q⟩ := h
    have hu := hu_of hr
    refine ⟨_, (pss_cons (ps_set (i := 2) sc_keeps_each_way.nd rfl (Or.inl rfl) (pe_callB call_sortedD (by rfl) T.b_sorted boot_sorted (pa_cons (pv 0) pa_nil)))
      (pss_cons (ps_for PassesOwn.never rfl (pi_list (pe_slice sl_list (pv 2) (po_some pe_int) po_none)) (pg_name (i := 3) sc_keeps_each_way.nd rfl (Or.inl rfl))
        (pss_one (ps_if (PW.pt (pw_or (pt_cmpR op_lt (pe_ix ix_tup (pe_call (ok_least_side T) (hr.mono (by decide)) rfl T.f_least_side.mg T.f_least_side.kp T.f_least_side.bd .nil pass0 (pa_cons (pv 0) (pa_cons (pe_slice sl_list (pv 2) po_none (po_some pe_int)) (pa_cons (pe_lst (pa_cons (pv 3) pa_nil)) pa_nil)))) pe_int (fun _ _ => rfl)) (pv 1) (nomark _)) (pw_or1 (pt_cmpR op_lt (pe_ix ix_tup (pe_call (ok_least_side T) (hr.mono (by decide)) rfl T.f_least_side.mg T.f_least_side.kp T.f_least_side.bd .nil pass0 (pa_cons (pv 0) (pa_cons (pe_lst (pa_cons (pv 3) pa_nil)) (pa_cons (pe_slice sl_list (pv 2) po_none (po_some pe_int)) pa_nil)))) pe_int (fun _ _ => rfl)) (pv 1) (nomark _)))))
        (pss_one (ps_ret pe_bl))
        pss_nil)))
      (pss_one (ps_ret pe_bl)))), ?_⟩
    refine ⟨_, rfl, rfl, a, _, bs.map (·.1), rfl, .inl hN.out, hN.r.keys, by rw [List.length_map]; omega, fun p1 hp1 => ?_⟩
    have S1 := Same.updN (o := .lst ((sortS (bs.map (·.1))).map V.str)) hp1
    have hP1 : (upd H p1 (.lst ((sortS (bs.map (·.1))).map V.str))) p1 = some (.lst ((sortS (bs.map (·.1))).map V.str)) := upd_same
    generalize upd H p1 (.lst ((sortS (bs.map (·.1))).map V.str)) = H1 at S1 hP1 ⊢
    have hN1 := hN.same S1
    refine ⟨_, rfl, _, rfl, p1, _, rfl, SqL.of hP1, fun p2 hp2 => ?_⟩
    obtain ⟨ps, hps⟩ : ∃ ps, ps = sortS (bs.map (·.1)) := ⟨_, rfl⟩
    rw [← hps] at hP1
    have hpl : ps.length ≤ 12 := by rw [hps, sortS_len, List.length_map]; exact hlen
    have hpm : ∀ x, x ∈ ps ↔ x ∈ bs.map (·.1) := fun x => by rw [hps]; exact mem_sortS
    have hcut : ∀ (l : List Str), l.length ≤ 12 → cutV (l.map V.str) (some 1) none = (l.drop 1).map V.str := fun l hl => by
      unfold cutV
      rw [HT.sIx_none, sIx_of (by decide), List.length_map, ← List.map_drop, ← List.map_take]
      congr 1
      have e : min (1 : Int).toNat l.length = min 1 l.length := rfl
      rw [e]
      cases l with
      | nil => rfl
      | cons x l => simp
    rw [← hps, hcut ps hpl]
    have S2 := Same.updN (o := .lst ((ps.drop 1).map V.str)) hp2
    have hP2 : (upd H1 p2 (.lst ((ps.drop 1).map V.str))) p2 = some (.lst ((ps.drop 1).map V.str)) := upd_same
    have hP12 := S2 _ _ hP1
    have S12 := S1.trans S2
    have hN2 := hN.same S12
    generalize upd H1 p2 (.lst ((ps.drop 1).map V.str)) = H2 at S2 hP2 hP12 S12 hN2 ⊢
    clear S1 S2 hP1 hN1 hp1 hp2 hN
    refine ⟨p2, rfl, ⟨_, SqL.of hP2⟩, for_list (xs := (ps.drop 1).map V.str) (fun i σ H3 => ∃ x3, σ = [some (.ref a), some (.int k), some (.ref p1), x3] ∧ Same H2 H3 ∧ ∀ x0, ps[0]? = some x0 → ∀ y ∈ (ps.drop 1).take i, ∀ S : Str → Bool, (S x0 = true ∧ S y = false) ∨ (S y = true ∧ S x0 = false) → k ≤ leave (bs.map (·.1)) (rc f) S) ⟨_, rfl, Same.refl _, fun _ _ y hy => absurd hy (by simp)⟩ (fun i σ H3 _ pv => ?_) (fun i x σ H3 hx pv => ?_) (fun σ H3 pv => ?_)⟩
    · obtain ⟨_, rfl, S3, _⟩ := pv
      exact SqL.of (S3 _ _ hP2)
    · obtain ⟨x3, rfl, S3, hk⟩ := pv
      rw [List.getElem?_map] at hx
      cases hy : (ps.drop 1)[i]? with
      | none => rw [hy] at hx; cases hx
      | some y =>
      rw [hy] at hx
      cases hx
      obtain ⟨x0, l, rfl⟩ : ∃ x0 l, ps = x0 :: l := by
        cases ps with
        | nil => simp at hy
        | cons x0 l => exact ⟨x0, l, rfl⟩
      have hyl : l[i]? = some y := by simpa using hy
      have hym : y ∈ bs.map (·.1) := (hpm y).mp (List.mem_cons_of_mem _ (List.mem_of_getElem? hyl))
      have hxm : x0 ∈ bs.map (·.1) := (hpm x0).mp (by simp)
      have hnd : (x0 :: l).Nodup := by rw [hps]; exact sortS_nodup hN2.ks
      have hxy : x0 ≠ y := fun e => by rw [List.nodup_cons] at hnd; exact hnd.1 (e ▸ List.mem_of_getElem? hyl)
      have hP3 := S3 _ _ hP12
      have hN3 := hN2.same S3
      have hcut1 : cutV ((x0 :: l).map V.str) none (some 1) = [V.str x0] := by
        unfold cutV
        rw [HT.sIx_none, sIx_of (by decide)]
        have e : min (1 : Int).toNat ((x0 :: l).map V.str).length = 1 := by simp
        rw [e]; rfl
      refine ⟨_, rfl, _, rfl, _, rfl, p1, _, rfl, SqL.of hP3, fun q1 hq1 => ⟨_, rfl, (by show 1 ≤ sizeLine; decide), fun q2 hq2 => ?_⟩⟩
      rw [hcut1] at hq2 ⊢
      have U1 := Same.updN (o := .lst [V.str x0]) hq1
      have U2 := Same.updN (o := .lst [V.str y]) hq2
      have U12 := U1.trans U2
      refine ⟨a, q1, q2, bs, f, [x0], [y], rfl, hN3.same U12, hg, hnn, hlen, SqL.of (U2 _ _ upd_same), by simp, by simpa using hxm, SqL.of upd_same, by simpa using hxy, fun t1 s1 H4 am1 R1 S4 _ _ hT1 _ _ hL1 => ?_⟩
      have S34 := U12.trans S4
      have hN4 := hN3.same S34
      have hP4 := S34 _ _ hP3
      have T4 := (S12.trans S3).trans S34
      clear U1 U2 U12 S4 hq1 hq2
      refine ⟨t1, _, _, .int am1, rfl, rfl, SqT.of hT1, rfl, _, rfl, _, _, rfl, rfl, _, rfl, iteD (fun h1 => ?_) (fun h1 => ?_)⟩
      · refine q H4 false T4 ⟨fun h => (by cases h), fun h => ?_⟩
        have := LeastS.keeps hL1 hxm hym h
        omega
      refine ⟨_, rfl, _, rfl, (by show 1 ≤ sizeLine; decide), fun q3 hq3 => ⟨_, rfl, _, rfl, p1, _, rfl, SqL.of ((Same.updN hq3) _ _ hP4), fun q4 hq4 => ?_⟩⟩
      rw [hcut1]
      have U1 := Same.updN (o := .lst [V.str y]) hq3
      have U2 := Same.updN (o := .lst [V.str x0]) hq4
      have U12 := U1.trans U2
      refine ⟨a, q3, q4, bs, f, [y], [x0], rfl, hN4.same U12, hg, hnn, hlen, SqL.of (U2 _ _ upd_same), by simp, by simpa using hym, SqL.of upd_same, by simpa using Ne.symm hxy, fun t2 s2 H5 am2 R2 S5 _ _ hT2 _ _ hL2 => ?_⟩
      have S35 := (S34.trans U12).trans S5
      have T5 := (T4.trans U12).trans S5
      refine ⟨t2, _, _, .int am2, rfl, rfl, SqT.of hT2, rfl, _, rfl, _, _, rfl, rfl, _, rfl, iteD (fun h2 => ?_) (fun h2 => ?_)⟩
      · refine q H5 false T5 ⟨fun h => (by cases h), fun h => ?_⟩
        have := LeastS.keeps hL2 hym hxm h
        omega
      refine ⟨_, rfl, S3.trans S35, fun x1 hx1 z hz S hS => ?_⟩
      cases hx1
      rw [List.take_add_one, hy] at hz
      rcases List.mem_append.mp hz with c | c
      · exact hk x0 rfl z c S hS
      · have e : z = y := by simpa using c
        subst e
        rcases hS with ⟨g1, g2⟩ | ⟨g1, g2⟩
        · have := hL1.least S (Side.two g1 g2); omega
        · have := hL2.least S (Side.two g1 g2); omega
    · obtain ⟨x3, rfl, S3, hk⟩ := pv
      have hl : ((ps.drop 1).map V.str).length = (ps.drop 1).length := List.length_map ..
      rw [hl, List.take_length] at hk
      refine q H3 true (S12.trans S3) ⟨fun _ => ?_, fun _ => rfl⟩
      intro S ⟨u, hu1, hu2⟩ ⟨v, hv1, hv2⟩
      cases hpe : ps with
      | nil => rw [hpe] at hpm; exact absurd ((hpm u).mpr hu1) (by simp)
      | cons x0 l =>
      have h0 : ps[0]? = some x0 := by rw [hpe]; rfl
      have hin : ∀ z, z ∈ bs.map (·.1) → z ≠ x0 → z ∈ ps.drop 1 := fun z hz hne => by
        have := (hpm z).mpr hz
        rw [hpe] at this ⊢
        exact (List.mem_cons.mp this).resolve_left hne
      cases hS : S x0 with
      | true => exact hk x0 h0 v (hin v hv1 (fun e => by rw [e, hS] at hv2; cases hv2)) S (.inl ⟨hS, hv2⟩)
      | false => exact hk x0 h0 u (hin u hu1 (fun e => by rw [e, hS] at hu2; cases hu2)) S (.inr ⟨hu2, hS⟩)
end
end K62

set_option Elab.async false
set_option linter.all false
set_option maxRecDepth 100000
set_option maxHeartbeats 4000000
namespace K62
open PySem L2 PySem.Spec PyProof.Rows
section
variable {P : Program} {w : World} {K : PySem.W.Frag} {mg : Str → Option Value} {base : Heap} {t : Adr}
/-! ### small ones of the law -/
def sp_same : Sp := fun vs H Q _ => ∃ (x y : Bool), vs = [.bl x, .bl y] ∧ Q (.bl (x == y)) H
theorem ok_l_same (T : Txt K mg t) : FnOk P w K mg base CX0 1 t.l_same t.fd_l_same ["_law_found", "_law_due"] sp_same := by
  refine T.f_l_same.fn.ok sc_l_same (fun vs H Q E h => ?_) (fun cdv A outer s H vs Q E hr h => ?_)
  · obtain ⟨x, y, rfl, _⟩ := h; rfl
  · obtain ⟨x, y, rfl, q⟩ := h
    refine ⟨_, (pss_one (ps_ret (pe_and (pe_callB call_isi (by rfl) T.b_isinstance boot_isinstance' (pa_cons (pv 0) (pa_cons (pe_bltn (v := .ty "bool") rfl T.b_bool boot_ty_bool rfl) pa_nil))) (pe_one (pe_cmpR op_eq (pv 0) (pv 1) (nomark _)))))), ?_⟩
    refine ⟨_, rfl, _, _, "bool", rfl, .bl x, rfl, _, rfl, iteT ⟨_, rfl, _, rfl, rfl, ?_⟩⟩
    have e : decide (V.bl x = V.bl y) = (x == y) := by cases x <;> cases y <;> simp
    show Q _ _
    rw [e]
    exact q
/-! ### is it a plan -/
def sp_isplan : Sp := fun vs H Q _ => ∃ (a c : Addr) (bs ds : Outer) (f g : Str → L2.Row), vs = [.ref a, .ref c] ∧ NetR H a bs f ∧ NetR H c ds g ∧ bs.length ≤ 12 ∧ ds.length ≤ 13 ∧ (∀ x ∈ bs.map (·.1), rc f x x = 0) ∧ ∀ H', Same H H' → Q (.bl (wayB (bs.map (·.1)) (ds.map (·.1)) f g)) H'
theorem rgetD {H : Hp} {a b : Addr} {bs : Outer} {f : Str → L2.Row} {x y : Str} (hN : NetR H a bs f) (hb : addrOf bs x = some b) : ((look (f x) y).map V.int).getD (.int 0) = .int (rc f x y) := by
  unfold rc
  cases look (f x) y <;> rfl
theorem ok_l_is_plan (T : Txt K mg t) : FnOk P w K mg base CX0 2 t.l_is_plan t.fd_l_is_plan ["_law_net_here", "_law_arcs_here"] sp_isplan := by
  refine T.f_l_is_plan.fn.ok sc_l_is_plan (fun vs H Q E h => ?_) (fun cdv A outer s H vs Q E hr h => ?_)
  · obtain ⟨a, c, bs, ds, f, g, rfl, _⟩ := h; rfl
  · obtain ⟨a, c, bs, ds, f, g, rfl, hN, hM, hl1, hl2, hirr, q⟩ := h
    have hu := hu_of hr
    refine ⟨_, (pss_cons (ps_if (pt_cmpR (op_neSs hu) (pe_callB call_sortedD (by rfl) T.b_sorted boot_sorted (pa_cons (pv 0) pa_nil)) (pe_callB call_sortedD (by rfl) T.b_sorted boot_sorted (pa_cons (pv 1) pa_nil)) (nomark _))
        (pss_one (ps_ret pe_bl))
        pss_nil)
      (pss_cons (ps_forD PassesOwn.never rfl (pv 0) (pg_name (i := 2) sc_l_is_plan.nd rfl (Or.inl rfl))
        (pss_one (ps_forD PassesOwn.never rfl (pv 0) (pg_name (i := 3) sc_l_is_plan.nd rfl (Or.inl rfl))
        (pss_one (ps_if (pt_cmpR op_ne (pe_op op_add (pe_dget2 hu (pe_dget hu (pv 1) (pv 2) (fun _ _ => rfl)) (pv 3) pe_int ⟨rfl, rfl, rfl, rfl⟩) (pe_dget2 hu (pe_dget hu (pv 1) (pv 3) (fun _ _ => rfl)) (pv 2) pe_int ⟨rfl, rfl, rfl, rfl⟩)) (pe_op op_mul (pe_dget2 hu (pe_dget hu (pv 0) (pv 2) (fun _ _ => rfl)) (pv 3) pe_int ⟨rfl, rfl, rfl, rfl⟩) (pe_op op_add pe_int (pe_callTy call_int1 (by rfl) T.b_int boot_ty_int (pa_cons (pe_cmpR op_eq (pv 2) (pv 3) (nomark _)) pa_nil)))) (nomark _))
        (pss_one (ps_ret pe_bl))
        pss_nil)))))
      (pss_one (ps_ret pe_bl)))), ?_⟩
    refine ⟨_, rfl, rfl, a, _, bs.map (·.1), rfl, hN.out, hN.keys, by rw [List.length_map]; omega, fun p1 hp1 => ?_⟩
    have S1 := Same.updN (o := .lst ((sortS (bs.map (·.1))).map V.str)) hp1
    refine ⟨_, rfl, rfl, c, _, ds.map (·.1), rfl, (hM.sm S1.sm).out, hM.keys, by rw [List.length_map]; omega, fun p2 hp2 => ?_⟩
    have S2 := Same.updN (o := .lst ((sortS (ds.map (·.1))).map V.str)) hp2
    refine ⟨p1, p2, _, _, rfl, rfl, SqL.of (S2 _ _ upd_same), SqL.of upd_same, _, rfl, iteB (fun h => ?_) (fun h => ?_)⟩
    · have h : sortS (bs.map (·.1)) ≠ sortS (ds.map (·.1)) := by simpa using h
      have e : wayB (bs.map (·.1)) (ds.map (·.1)) f g = false := by unfold wayB; rw [decide_eq_false (Ne.symm h)]; rfl
      rw [e] at q
      exact q _ (S1.trans S2)
    · have h : sortS (ds.map (·.1)) = sortS (bs.map (·.1)) := by simpa using Eq.symm (by simpa using h)
      have hsub : ∀ x ∈ bs.map (·.1), x ∈ ds.map (·.1) := fun x hx => by
        have := mem_sortS.mpr hx
        rw [← h] at this
        exact mem_sortS.mp this
      have S12 := S1.trans S2
      have hN2 := hN.sm S12.sm
      have hM2 := hM.sm S12.sm
      generalize upd (upd H p1 (.lst ((sortS (bs.map (·.1))).map V.str))) p2 (.lst ((sortS (ds.map (·.1))).map V.str)) = H2 at S12 hN2 hM2 ⊢
      have hcl : ∀ (p : Bool), (bs.map (·.1)).all (fun x => (bs.map (·.1)).all fun y => decide (rc g x y + rc g y x = rc f x y)) = p → wayB (bs.map (·.1)) (ds.map (·.1)) f g = p := fun p hp => by unfold wayB; rw [hp, decide_eq_true h]; rfl
      clear S1 S2 hp1 hp2
      refine ⟨_, rfl, a, _, rfl, hN2.out, fun o H3 fz => forD hN2.out fz (fun i σ H4 => ∃ x2 x3, σ = [some (.ref a), some (.ref c), x2, x3] ∧ ((bs.map (·.1)).take i).all (fun x => (bs.map (·.1)).all fun y => decide (rc g x y + rc g y x = rc f x y)) = true) ⟨_, _, rfl, rfl⟩ (fun i σ H4 H5 e pv => pv) (fun i k v σ H4 hk fs pv => ?_) (fun σ H4 S4 pv => ?_)⟩
      · obtain ⟨x2, x3, rfl, hall⟩ := pv
        obtain ⟨z, hzi, rfl, rfl⟩ := enc_at hk
        have hzk : (bs.map (·.1))[i]? = some z.1 := by rw [List.getElem?_map, hzi]; rfl
        have hzm := List.mem_of_getElem? hzk
        have hN4 := hN2.sm (fs.sm hN2.out)
        have hM4 := hM2.sm (fs.sm hN2.out)
        refine ⟨_, rfl, a, _, rfl, hN4.out, fun o2 H5 fz2 => forD hN4.out fz2 (fun j σ H6 => ∃ x3, σ = [some (.ref a), some (.ref c), some (.str z.1), x3] ∧ ((bs.map (·.1)).take j).all (fun y => decide (rc g z.1 y + rc g y z.1 = rc f z.1 y)) = true) ⟨_, rfl, rfl⟩ (fun i σ H4 H5 e pv => pv) (fun j k2 v2 σ H6 hk2 fs2 pv => ?_) (fun σ H6 S6 pv => ?_)⟩
        · obtain ⟨x3, rfl, hall2⟩ := pv
          obtain ⟨y, hyi, rfl, rfl⟩ := enc_at hk2
          have hyk : (bs.map (·.1))[j]? = some y.1 := by rw [List.getElem?_map, hyi]; rfl
          have hym := List.mem_of_getElem? hyk
          have hN6 := hN4.sm (fs2.sm hN4.out)
          have hM6 := hM4.sm (fs2.sm hN4.out)
          obtain ⟨b1, hb1⟩ := addrOf_some (bs := ds) (x := z.1) (hsub _ hzm)
          obtain ⟨b2, hb2⟩ := addrOf_some (bs := ds) (x := y.1) (hsub _ hym)
          obtain ⟨b3, hb3⟩ := addrOf_some (bs := bs) (x := z.1) hzm
          refine ⟨_, rfl, _, rfl, c, _, rfl, hM6.dget hb1, b1, rfl, .inl ⟨_, hM6.inn _ (addrOf_mem hb1)⟩, _, rfl, _, hM6.rget hb1, ?_⟩
          rw [rgetD hM6 hb1]
          refine ⟨_, rfl, _, rfl, c, _, rfl, hM6.dget hb2, b2, rfl, .inl ⟨_, hM6.inn _ (addrOf_mem hb2)⟩, _, rfl, _, hM6.rget hb2, ?_⟩
          rw [rgetD hM6 hb2]
          refine ⟨_, _, rfl, rfl, ?_⟩
          refine ⟨_, rfl, _, rfl, a, _, rfl, hN6.dget hb3, b3, rfl, .inl ⟨_, hN6.inn _ (addrOf_mem hb3)⟩, _, rfl, _, hN6.rget hb3, ?_⟩
          rw [rgetD hN6 hb3]
          refine ⟨_, rfl, _, rfl, rfl, .inr ⟨_, rfl, ?_⟩⟩
          have hfac : ∀ (d : Bool), (1 : Int) + (if d = true then 1 else 0) = 1 ∨ (1 : Int) + (if d = true then 1 else 0) = 2 := fun d => by cases d <;> simp
          have hmul : rc f z.1 y.1 * (1 + (if decide (V.str z.1 = V.str y.1) = true then 1 else 0)) = rc f z.1 y.1 := by
            by_cases e : z.1 = y.1
            · rw [← e, hirr _ hzm]; omega
            · rw [if_neg (by simp [e])]; omega
          refine ⟨_, _, rfl, rfl, _, _, rfl, rfl, .inr ?_, rfl, _, rfl, iteB (fun hb => ?_) (fun hb => ?_)⟩
          · rcases hfac (decide (V.str z.1 = V.str y.1)) with h | h <;> exact ⟨by show -2 ^ 64 < 1 + (if decide (V.str z.1 = V.str y.1) = true then (1 : Int) else 0); rw [h]; decide, by show 1 + (if decide (V.str z.1 = V.str y.1) = true then (1 : Int) else 0) < 2 ^ 64; rw [h]; decide⟩
          · have hb : ¬ (rc g z.1 y.1 + rc g y.1 z.1 = rc f z.1 y.1 * (1 + (if decide (V.str z.1 = V.str y.1) = true then 1 else 0))) := by simpa [kV] using hb
            rw [hmul] at hb
            refine thaw_rt hN4.out fz2 fs2 fun H7 s7 _ => thaw_rt hN2.out fz (fs.same s7) fun H8 s8 _ => ?_
            rw [hcl false (all_false hzm (all_false hym (decide_eq_false hb)))] at q
            exact q H8 (S12.trans s8)
          · have hb : rc g z.1 y.1 + rc g y.1 z.1 = rc f z.1 y.1 * (1 + (if decide (V.str z.1 = V.str y.1) = true then 1 else 0)) := by simpa [kV] using hb
            rw [hmul] at hb
            refine ⟨fs2, _, rfl, ?_⟩
            rw [all_take hall2 hyk]
            simpa using hb
        · obtain ⟨x3, rfl, hall2⟩ := pv
          refine ⟨fs.same S6, _, _, rfl, ?_⟩
          rw [all_take hall hzk]
          have el : (encO bs).length = (bs.map (·.1)).length := by unfold encO; simp
          rw [el, List.take_length] at hall2
          exact hall2
      · obtain ⟨x2, x3, rfl, hall⟩ := pv
        have el : (encO bs).length = (bs.map (·.1)).length := by unfold encO; simp
        rw [el, List.take_length] at hall
        rw [hcl true hall] at q
        exact q H4 (S12.trans S4)
end
end K62

set_option Elab.async false
set_option linter.all false
set_option maxRecDepth 100000
set_option maxHeartbeats 4000000
namespace K62
open PySem L2 PySem.Spec PyProof.Rows
section
variable {P : Program} {w : World} {K : PySem.W.Frag} {mg : Str → Option Value} {base : Heap} {t : Adr}
/-! ### what leaves a side -/
def sp_out : Sp := fun vs H Q _ => ∃ (a b : Addr) (bs : Outer) (g : Str → L2.Row) (ss : List Str), vs = [.ref a, .ref b] ∧ NetR H a bs g ∧ RowsIn (bs.map (·.1)) g ∧ H b = some (.lst (ss.map V.str)) ∧ (∀ x ∈ ss, x ∈ bs.map (·.1)) ∧ ∀ H', Same H H' → Q (.int (amtF g ss)) H'
theorem ok_l_out (T : Txt K mg t) : FnOk P w K mg base CX0 1 t.l_out t.fd_l_out ["_law_arcs_here", "_law_side"] sp_out := by
  refine T.f_l_out.fn.ok sc_l_out (fun vs H Q E h => ?_) (fun cdv A outer s H vs Q E hr h => ?_)
  · obtain ⟨a, b, bs, g, ss, rfl, _⟩ := h; rfl
  · obtain ⟨a, b, bs, g, ss, rfl, hN, hg, hB, hin, q⟩ := h
    have hu := hu_of hr
    refine ⟨_, (pss_cons (ps_set (i := 2) sc_l_out.nd rfl (Or.inl rfl) pe_int)
      (pss_cons (ps_for PassesOwn.never rfl (pi_list (pv 1)) (pg_name (i := 3) sc_l_out.nd rfl (Or.inl rfl))
        (pss_one (ps_forD PassesOwn.never rfl (pe_dget hu (pv 0) (pv 3) (fun _ _ => rfl)) (pg_name (i := 4) sc_l_out.nd rfl (Or.inl rfl))
        (pss_one (ps_if (pt_cmpR op_notIn_seq (pv 4) (pv 1) rfl)
        (pss_one (ps_set (i := 2) sc_l_out.nd rfl (Or.inl rfl) (pe_op op_add (pv 2) (pe_dget hu (pe_dget hu (pv 0) (pv 3) (fun _ _ => rfl)) (pv 4) (fun _ _ => rfl)))))
        pss_nil)))))
      (pss_one (ps_ret (pv 2))))), ?_⟩
    refine ⟨_, rfl, b, rfl, ⟨_, SqL.of hB⟩, ?_⟩
    refine for_list (xs := ss.map V.str) (fun i σ H2 => ∃ tot x3 x4, σ = [some (.ref a), some (.ref b), some (.int tot), x3, x4] ∧ tot = (sumL (ss.take i) fun x => rowOut (g x) ss) ∧ Same H H2) ⟨_, _, _, rfl, rfl, Same.refl _⟩ (fun i σ H2 _ pv => ?_) (fun i x σ H2 hx pv => ?_) (fun σ H2 pv => ?_)
    · obtain ⟨_, _, _, rfl, _, hS⟩ := pv
      exact SqL.of (hS _ _ hB)
    · obtain ⟨tot, x3, x4, rfl, ht, hS⟩ := pv
      rw [List.getElem?_map] at hx
      cases hk : ss[i]? with
      | none => rw [hk] at hx; cases hx
      | some z =>
      rw [hk] at hx
      cases hx
      have hzm := hin z (List.mem_of_getElem? hk)
      have hN2 := hN.sm hS.sm
      have hB2 := hS _ _ hB
      obtain ⟨b1, had⟩ := addrOf_some (bs := bs) (x := z) hzm
      have hrow := hN2.inn _ (addrOf_mem had)
      refine ⟨_, rfl, _, rfl, a, _, rfl, hN2.dget had, b1, _, rfl, hrow, fun o2 H4 fz2 => forD hrow fz2 (fun j σ H5 => ∃ tot2 x4, σ = [some (.ref a), some (.ref b), some (.int tot2), some (.str z), x4] ∧ tot2 = tot + rowOut ((g z).take j) ss ∧ H5 b = some (.lst (ss.map V.str))) ⟨_, _, rfl, by show tot = tot + 0; omega, hB2⟩ (fun j σ H5 H6 e pv => ?_) (fun j k v σ H5 hk2 fs2 pv => ?_) (fun σ H5 S5 pv => ?_)⟩
      · obtain ⟨tot2, x4, rfl, ht2, hb5⟩ := pv
        exact ⟨tot2, x4, rfl, ht2, by rw [e b (fun e => by rcases hrow with q | ⟨_, q⟩ <;> rw [← e, hB2] at q <;> cases q)]; exact hb5⟩
      · obtain ⟨tot2, x4, rfl, ht2, hb5⟩ := pv
        obtain ⟨y, n, hy, rfl⟩ : ∃ y n, (g z)[j]? = some (y, n) ∧ k = Sum.inr y := by
          unfold encI at hk2
          rw [List.getElem?_map] at hk2
          cases e : (g z)[j]? with
          | none => rw [e] at hk2; cases hk2
          | some q => rw [e] at hk2; cases hk2; exact ⟨q.1, q.2, rfl, rfl⟩
        have hN5 := hN2.sm (fs2.sm hrow)
        have hv : look (g z) y = some n := mem_look (hg.nd z hzm) (List.mem_of_getElem? hy)
        have e1 : rowOut ((g z).take (j + 1)) ss = rowOut ((g z).take j) ss + (if y ∈ ss then 0 else n) := by
          rw [List.take_add_one, hy]
          unfold rowOut
          rw [sumL_snoc]
        refine ⟨_, rfl, _, rfl, b, _, rfl, .inl (SqL.of hb5), rfl, flat_strs ss, _, rfl, iteB (fun h2 => ?_) (fun h2 => ?_)⟩
        · have h2 : y ∉ ss := by simpa [inV_strs, kV] using h2
          refine ⟨_, rfl, _, rfl, _, rfl, a, _, rfl, hN5.dget had, _, rfl, b1, _, rfl, hN5.rget' had hv, _, _, rfl, rfl, fs2, _, _, rfl, ?_, hb5⟩
          rw [e1, if_neg h2, ht2]
          omega
        · have h2 : y ∈ ss := by simpa [inV_strs, kV] using h2
          refine ⟨fs2, _, _, rfl, ?_, hb5⟩
          rw [e1, if_pos h2, ht2]
          omega
      · obtain ⟨tot2, x4, rfl, ht2, hb5⟩ := pv
        rw [encI_len, List.take_length] at ht2
        refine ⟨_, _, _, rfl, ?_, hS.trans S5⟩
        rw [List.take_add_one, hk, sumL_snoc, ht2, ht]
    · obtain ⟨tot, x3, x4, rfl, ht, hS⟩ := pv
      rw [List.length_map, List.take_length] at ht
      subst ht
      exact ⟨_, rfl, q H2 hS⟩
/-! ### all sides -/
def sp_sides : Sp := fun vs H Q _ => ∃ (b : Addr) (ps : List Str), vs = [.ref b] ∧ H b = some (.lst (ps.map V.str)) ∧ ps.length ≤ 8 ∧
  ∀ p H' zs, Same H H' → H' p = some (.lst (sdV zs)) → (∀ z ∈ zs, H' z.1 = some (.lst (z.2.map V.str))) → zs.map (·.2) = (List.range (2 ^ ps.length - 2)).map (fun (i : Nat) => selTo (1 + (i : Int)) ps ps.length) → Q (.ref p) H'
theorem ok_l_sides (T : Txt K mg t) : FnOk P w K mg base CX0 1 t.l_sides t.fd_l_sides ["_law_places"] sp_sides := by
  refine T.f_l_sides.fn.ok sc_l_sides (fun vs H Q E h => ?_) (fun cdv A outer s H vs Q E hr h => ?_)
  · obtain ⟨b, ps, rfl, _⟩ := h; rfl
  · obtain ⟨b, ps, rfl, hB, hl, q⟩ := h
    have hu := hu_of hr
    refine ⟨_, (pss_cons (ps_set (i := 1) sc_l_sides.nd rfl (Or.inl rfl) (pe_lst pa_nil))
      (pss_cons (ps_for PassesOwn.never rfl (pi_range2 rfl T.b_range (pa_cons pe_int (pa_cons (pe_op op_sub (pe_op op_shl pe_int (pe_callB call_len (by rfl) T.b_len boot_len' (pa_cons (pv 0) pa_nil))) pe_int) pa_nil))) (pg_name (i := 2) sc_l_sides.nd rfl (Or.inr rfl))
        (pss_one (ps_expr (pe_bm PySem.F.plainAttrs_list PySem.F.slot_list_append PySem.F.type_list_append mt_append (pv 1) (pa_cons (pe_comp ["_law_k"] [0, 2] rfl (pi_range1 rfl T.b_range (pa_cons (pe_callB call_len (by rfl) T.b_len boot_len' (pa_cons (pv 0) pa_nil)) pa_nil)) (fun _ _ _ _ _ => (pg_name (i := 0) (show (["_law_k", "_law_places", "_law_bits"] : List Str).Nodup by decide +kernel) rfl (Or.inl rfl))) (fun _ _ _ _ _ => (pif_one (pt_cmpR op_eq (pe_op op_and (pe_op op_shr (pv 2) (pv 0)) pe_int) pe_int (nomark _)))) (fun _ _ _ _ _ => (pe_ix (ix_listK (K := K) rfl) (pv 1) (pv 0) (fun _ _ => rfl))) ⟨⟨_, rfl, rfl, .inl rfl⟩, ⟨⟨_, rfl, rfl, .inl rfl⟩, trivial⟩⟩ (hfr := by show ∀ y ∈ (_ : List (Str × NameKind)), y.2 = NameKind.free → (defScope s_l_sides).names.lookup y.1 = some NameKind.cell ∨ (defScope s_l_sides).names.lookup y.1 = some NameKind.free; decide +kernel)) pa_nil)))))
      (pss_one (ps_ret (pv 1))))), ?_⟩
    refine ⟨(by decide), fun p hp => ?_⟩
    have S1 := Same.updN (o := .lst []) hp
    have hP1 : (upd H p (.lst [])) p = some (.lst []) := upd_same
    generalize upd H p (.lst []) = H1 at S1 hP1
    have hB1 := S1 _ _ hB
    have n2 : (2 : Int) ^ (ps.length : Int).toNat = ((2 ^ ps.length : Nat) : Int) := by rw [Int.toNat_natCast]; push_cast; rfl
    have n3 : 1 ≤ 2 ^ ps.length := Nat.one_le_two_pow
    have n4 : 2 ^ ps.length ≤ 2 ^ 8 := Nat.pow_le_pow_right (by decide) hl
    refine ⟨_, rfl, _, ps.length, rfl, .inl ⟨_, SqL.of hB1, by simp⟩, _, _, rfl, rfl, ⟨by omega, by omega, by decide⟩, ?_⟩
    refine ⟨_, _, rfl, rfl, _, _, rfl, ⟨by decide, by decide, by omega, by omega⟩, ?_⟩
    have hcnt : (1 * 2 ^ (ps.length : Int).toNat - 1 - 1 : Int).toNat = 2 ^ ps.length - 2 := by rw [n2]; omega
    refine for_range (n := (1 * 2 ^ (ps.length : Int).toNat - 1 - 1 : Int).toNat) (fun i σ H3 => ∃ x2 zs, σ = [some (.ref b), some (.ref p), x2] ∧ Same H H3 ∧ H3 p = some (.lst (sdV zs)) ∧ (∀ z ∈ zs, H3 z.1 = some (.lst (z.2.map V.str))) ∧ zs.map (·.2) = (List.range i).map (fun (i : Nat) => selTo (1 + (i : Int)) ps ps.length) ∧ ∀ z ∈ zs, z.1 ≠ p) ⟨_, [], rfl, S1, hP1, fun _ h => absurd h (by simp), rfl, fun _ h => absurd h (by simp)⟩ (fun i σ H3 hi pv => ?_) (fun σ H3 pv => ?_)
    · obtain ⟨x2, zs, rfl, S3, hP3, hz3, he, hzp⟩ := pv
      rw [hcnt] at hi
      have hzl : zs.length = i := by
        have := congrArg List.length he
        simpa using this
      have hB3 := S3 _ _ hB
      have pb : p ≠ b := fun e => by rw [e, hB] at hp; cases hp
      have hm : (ps.length : Int).toNat = ps.length := Int.toNat_natCast _
      refine ⟨_, rfl, .inl ⟨rfl, _, SqL.of hP3⟩, _, rfl, _, ps.length, rfl, .inl ⟨_, SqL.of hB3, by simp⟩, (ps.length : Int), rfl, by omega, by omega, ?_⟩
      refine comp_inv (ps.length : Int).toNat (fun j ys H4 => H4 = H3 ∧ ys = (selTo (1 + (i : Int)) ps j).map V.str ∧ j ≤ ps.length) ⟨rfl, rfl, Nat.zero_le _⟩ (fun j ys H4 pv => ?_) (fun j ys H4 hj pv => ?_) (fun ys H4 pv => ?_)
      · obtain ⟨_, rfl, hjl⟩ := pv
        rw [List.length_map]
        have := selTo_len (1 + (i : Int)) ps j
        exact szl (by omega)
      · obtain ⟨rfl, rfl, hjl⟩ := pv
        have hj' : j < ps.length := by omega
        have hx : ps[j]? = some ps[j] := List.getElem?_eq_getElem hj'
        refine ⟨hj, ?_⟩
        rintro v H5 ⟨rfl, rfl⟩
        simp only [Int.zero_add]
        have hs : selTo (1 + (i : Int)) ps (j + 1) = selTo (1 + (i : Int)) ps j ++ (if bitOn (1 + (i : Int)) j then [ps[j]] else []) := by
          show selTo (1 + (i : Int)) ps j ++ (match ps[j]? with | some x => if bitOn (1 + (i : Int)) j then [x] else [] | none => []) = _
          rw [hx]
        refine ⟨_, rfl, _, rfl, _, _, rfl, rfl, by omega, _, _, rfl, rfl, ?_⟩
        refine ⟨rfl, _, rfl, iteB (fun hb => ?_) (fun hb => ?_)⟩
        · have hb : bitOn (1 + (i : Int)) j := by simpa [bitOn, PyProof.Rows.bitAnd_m1] using hb
          refine ⟨_, rfl, _, rfl, b, _, _, .str ps[j], rfl, rfl, SqL.of hB3, atI_nat (by rw [List.getElem?_map, hx]; rfl), nxC hj ⟨rfl, ?_, hj'⟩⟩
          rw [hs, if_pos hb, List.map_append]; rfl
        · have hb : ¬ bitOn (1 + (i : Int)) j := by simpa [bitOn, PyProof.Rows.bitAnd_m1] using hb
          refine nxC hj ⟨rfl, ?_, hj'⟩
          rw [hs, if_neg hb, List.append_nil]
      · obtain ⟨rfl, rfl, _⟩ := pv
        rw [hm]
        refine ⟨Nat.le_of_eq hm, fun l1 hl1 => ?_⟩
        have U1 := Same.updN (o := .lst ((selTo (1 + (i : Int)) ps ps.length).map V.str)) hl1
        have hl1' : (upd H4 l1 (.lst ((selTo (1 + (i : Int)) ps ps.length).map V.str))) l1 = some (.lst ((selTo (1 + (i : Int)) ps ps.length).map V.str)) := upd_same
        have l1p : l1 ≠ p := fun e => by rw [e, hP3] at hl1; cases hl1
        refine ⟨p, _, _, rfl, rfl, U1 _ _ hP3, (by unfold sdV; rw [List.length_map]; exact szl (by omega)), ?_⟩
        refine ⟨_, zs ++ [(l1, selTo (1 + (i : Int)) ps ps.length)], rfl, (S3.trans U1).upd hp, ?_, fun z hz => ?_, ?_, fun z hz => ?_⟩
        · rw [upd_same]; unfold sdV; rw [List.map_append]; rfl
        · rcases List.mem_append.mp hz with c | c
          · have h3 := hz3 z c
            rw [upd_ne (hzp z c)]; exact U1 _ _ h3
          · rw [List.mem_singleton.mp c, upd_ne l1p]; exact hl1'
        · rw [List.map_append, he, List.range_succ, List.map_append]; rfl
        · rcases List.mem_append.mp hz with c | c
          · exact hzp z c
          · rw [List.mem_singleton.mp c]; exact l1p
    · obtain ⟨x2, zs, rfl, S3, hP3, hz3, he, _⟩ := pv
      rw [hcnt] at he
      exact ⟨_, rfl, q p H3 zs S3 hP3 hz3 he⟩
/-! ### k kept by all sides -/
def sp_lkeeps : Sp := fun vs H Q _ => ∃ (a : Addr) (bs : Outer) (f : Str → L2.Row) (k : Int), vs = [.ref a, .int k] ∧ NetR H a bs f ∧ RowsIn (bs.map (·.1)) f ∧ bs.length ≤ 8 ∧ ∀ H' b, Same H H' → (b = true ↔ KeepsK (bs.map (·.1)) (rc f) k) → Q (.bl b) H'
theorem ok_l_keeps (T : Txt K mg t) : FnOk P w K mg base CX0 2 t.l_keeps t.fd_l_keeps ["_law_arcs_here", "_law_k"] sp_lkeeps := by
  refine T.f_l_keeps.fn.ok sc_l_keeps (fun vs H Q E h => ?_) (fun cdv A outer s H vs Q E hr h => ?_)
  · obtain ⟨a, bs, f, k, rfl, _⟩ := h; rfl
  · obtain ⟨a, bs, f, k, rfl, hN, hg, hlen, q⟩ := h
    have hu := hu_of hr
    refine ⟨_, (pss_cons (ps_for PassesOwn.never rfl (pi_list (pe_call (ok_l_sides T) (hr.mono (by decide)) rfl T.f_l_sides.mg T.f_l_sides.kp T.f_l_sides.bd .nil pass0 (pa_cons (pe_callB call_sortedD (by rfl) T.b_sorted boot_sorted (pa_cons (pv 0) pa_nil)) pa_nil))) (pg_name (i := 2) sc_l_keeps.nd rfl (Or.inl rfl))
        (pss_one (ps_if (pt_cmpR op_lt (pe_call (ok_l_out T) (hr.mono (by decide)) rfl T.f_l_out.mg T.f_l_out.kp T.f_l_out.bd .nil pass0 (pa_cons (pv 0) (pa_cons (pv 2) pa_nil))) (pv 1) (nomark _))
        (pss_one (ps_ret pe_bl))
        pss_nil)))
      (pss_one (ps_ret pe_bl))), ?_⟩
    refine ⟨_, rfl, rfl, a, _, bs.map (·.1), rfl, hN.out, hN.keys, by rw [List.length_map]; omega, fun p1 hp1 => ?_⟩
    obtain ⟨ps, hps⟩ : ∃ ps, ps = sortS (bs.map (·.1)) := ⟨_, rfl⟩
    rw [← hps]
    have S1 := Same.updN (o := .lst (ps.map V.str)) hp1
    have hP1 : (upd H p1 (.lst (ps.map V.str))) p1 = some (.lst (ps.map V.str)) := upd_same
    have hpl : ps.length ≤ 8 := by rw [hps, sortS_len, List.length_map]; exact hlen
    have hpm : ∀ x, x ∈ ps ↔ x ∈ bs.map (·.1) := fun x => by rw [hps]; exact mem_sortS
    have hnd : ps.Nodup := by rw [hps]; exact sortS_nodup hN.ks
    refine ⟨p1, ps, rfl, hP1, hpl, fun p H2 zs S2 hP2 hz2 he => ?_⟩
    have T2 := S1.trans S2
    have hN2 := hN.sm T2.sm
    have hzs : ∀ (i : Nat) (z : Addr × List Str), zs[i]? = some z → i < 2 ^ ps.length - 2 ∧ z.2 = selTo (1 + (i : Int)) ps ps.length := fun i z hz => by
      have : (zs.map (·.2))[i]? = some z.2 := by rw [List.getElem?_map, hz]; rfl
      rw [he, List.getElem?_map] at this
      cases c : (List.range (2 ^ ps.length - 2))[i]? with
      | none => rw [c] at this; cases this
      | some j =>
        rw [c] at this
        have hj := List.getElem?_eq_some_iff.mp c
        obtain ⟨h1, h2⟩ := hj
        simp at h1 h2
        subst h2
        exact ⟨h1, (Option.some.inj this).symm⟩
    have hamt : ∀ (i : Nat) (z : Addr × List Str), zs[i]? = some z → amtF f z.2 = leave (bs.map (·.1)) (rc f) (inB z.2) := fun i z hz => by
      obtain ⟨_, e⟩ := hzs i z hz
      refine amtF_eq hN.ks hg (by rw [e]; exact selTo_nd hnd _) fun x hx => ?_
      rw [e] at hx
      exact (hpm x).mp (selTo_sub x hx)
    clear S1 S2 hP1 hp1
    refine ⟨p, rfl, ⟨_, SqL.of hP2⟩, for_list (xs := sdV zs) (fun i σ H3 => ∃ x2, σ = [some (.ref a), some (.int k), x2] ∧ Same H2 H3 ∧ ∀ (j : Nat) (z : Addr × List Str), j < i → zs[j]? = some z → k ≤ leave (bs.map (·.1)) (rc f) (inB z.2)) ⟨_, rfl, Same.refl _, fun j z h => by omega⟩ (fun i σ H3 _ pv => ?_) (fun i x σ H3 hx pv => ?_) (fun σ H3 pv => ?_)⟩
    · obtain ⟨_, rfl, S3, _⟩ := pv
      exact SqL.of (S3 _ _ hP2)
    · obtain ⟨x2, rfl, S3, hk⟩ := pv
      unfold sdV at hx
      rw [List.getElem?_map] at hx
      cases hz : zs[i]? with
      | none => rw [hz] at hx; cases hx
      | some z =>
      rw [hz] at hx
      cases hx
      obtain ⟨hi, ez⟩ := hzs i z hz
      have hN3 := hN2.sm S3.sm
      have hz3 := S3 _ _ (hz2 z (List.mem_of_getElem? hz))
      refine ⟨_, rfl, _, rfl, a, z.1, bs, f, z.2, rfl, hN3, hg, hz3, (fun x hx => by rw [ez] at hx; exact (hpm x).mp (selTo_sub x hx)), fun H4 S4 => ?_⟩
      rw [hamt i z hz]
      have T4 := (T2.trans S3).trans S4
      refine ⟨_, rfl, _, _, rfl, rfl, _, rfl, iteD (fun h1 => ?_) (fun h1 => ?_)⟩
      · refine q H4 false T4 ⟨fun h => (by cases h), fun h => ?_⟩
        obtain ⟨⟨u, hu1, hu2⟩, ⟨v, hv1, hv2⟩⟩ := bits_side hnd (b := 1 + (i : Int)) (by omega) (by
          have : ((2 ^ ps.length : Nat) : Int) = (2 : Int) ^ ps.length := by push_cast; rfl
          omega)
        have := h (inB z.2) ⟨u, (hpm u).mp hu1, by rw [ez]; exact hu2⟩ ⟨v, (hpm v).mp hv1, by rw [ez]; exact hv2⟩
        omega
      · refine ⟨_, rfl, S3.trans S4, fun j y hj hy => ?_⟩
        by_cases e : j = i
        · subst e
          rw [hz] at hy
          cases hy
          omega
        · exact hk j y (by omega) hy
    · obtain ⟨x2, rfl, S3, hk⟩ := pv
      have hzl : (sdV zs).length = 2 ^ ps.length - 2 := by
        have := congrArg List.length he
        simpa [sdV] using this
      refine q H3 true (T2.trans S3) ⟨fun _ => ?_, fun _ => rfl⟩
      intro S ⟨u, hu1, hu2⟩ ⟨v, hv1, hv2⟩
      obtain ⟨b, hb1, hb2, hb3⟩ := bits_for hnd S ⟨u, (hpm u).mpr hu1, hu2⟩ ⟨v, (hpm v).mpr hv1, hv2⟩
      have hpw : ((2 ^ ps.length : Nat) : Int) = (2 : Int) ^ ps.length := by push_cast; rfl
      have hi : (b - 1).toNat < zs.length := by
        have : (sdV zs).length = zs.length := by unfold sdV; rw [List.length_map]
        omega
      have hz := List.getElem?_eq_getElem hi
      have := hk (b - 1).toNat _ (by have : (sdV zs).length = zs.length := by unfold sdV; rw [List.length_map]
                                     omega) hz
      obtain ⟨_, ez⟩ := hzs _ _ hz
      have eb : (1 : Int) + ((b - 1).toNat : Int) = b := by omega
      rw [eb] at ez
      rw [ez, leave_congr (S' := S) fun x hx => hb3 x ((hpm x).mpr hx)] at this
      exact this
end
end K62

set_option Elab.async false
set_option linter.all false
set_option maxRecDepth 100000
set_option maxHeartbeats 4000000
namespace K62
open PySem L2 PySem.Spec PyProof.Rows
section
variable {P : Program} {w : World} {K : PySem.W.Frag} {mg : Str → Option Value} {base : Heap} {t : Adr}
/-! ### arcs drawn -/
def AS (H : Hp) (p : Addr) (ks : List Str) (H2 : Hp) : Prop := ∃ ds g, Same H H2 ∧ NetAt H2 p ds g ∧ ds.map (·.1) = ks ∧ New H p ds ∧ RowsIn ks g ∧ ∀ x ∈ ks, ∀ y ∈ ks, 0 ≤ rc g x y
def KeepL (H2 H3 : Hp) : Prop := ∀ c xs, H2 c = some (.lst xs) → H3 c = some (.lst xs)
theorem AS.put {H H2 : Hp} {p : Addr} {ks : List Str} (h : AS H p ks H2) (hk : ks.length ≤ 12) {x y : Str} (hx : x ∈ ks) (hy : y ∈ ks) : ∃ b, DGet H2 p (.str x) (some (.ref b)) ∧ ∀ v : Int, 0 ≤ v → ∃ H3, DPut H2 b (.str y) (.int v) H3 ∧ AS H p ks H3 ∧ KeepL H2 H3 := by
  obtain ⟨ds, g, S, hN, hds, hnew, hr, hnn⟩ := h
  obtain ⟨b, hb⟩ := addrOf_some (bs := ds) (x := x) (by rw [hds]; exact hx)
  refine ⟨b, hN.r.dget hb, fun v hv => ?_⟩
  obtain ⟨p1, p2⟩ := hN.put hb v y (szl (by have := hr.len hx; omega))
  refine ⟨_, p1, ⟨ds, _, Same.netput S hnew hb, p2, hds, hnew, hr.putR hx hy, fun u hu w hw => ?_⟩, fun c xs hc => ?_⟩
  · rw [rc_putR]
    split
    · exact hv
    · exact hnn u hu w hw
  · have := hN.inn _ (addrOf_mem hb)
    rw [upd_ne (ne_of hc this (by intro z; cases z))]; exact hc
theorem AS.same {H H2 H3 : Hp} {p : Addr} {ks : List Str} (h : AS H p ks H2) (s : Same H2 H3) : AS H p ks H3 := by
  obtain ⟨ds, g, S, hN, r⟩ := h
  exact ⟨ds, g, S.trans s, hN.same s, r⟩
theorem AS.sm {H H2 : Hp} {p : Addr} {ks : List Str} (h : AS H p ks H2) : Same H H2 := by obtain ⟨_, _, S, _⟩ := h; exact S
theorem pick2 {a b n : Int} : ∃ v, atI [V.int a, V.int b] (n % 2) = some (.int v) := by
  have : n % 2 = 0 ∨ n % 2 = 1 := by omega
  rcases this with e | e <;> rw [e]
  · exact ⟨a, rfl⟩
  · exact ⟨b, rfl⟩
def sp_arcs : Sp := fun vs H Q _ => ∃ (a : Addr) (bs : Outer) (f : Str → L2.Row) (c B : Int), vs = [.ref a, .int c] ∧ NetAt H a bs f ∧ bs.length ≤ 12 ∧ GNet (bs.map (·.1)) f B ∧ ∀ p H', AS H p (bs.map (·.1)) H' → Q (.ref p) H'
theorem ok_l_arcs (T : Txt K mg t) : FnOk P w K mg base CX0 2 t.l_arcs t.fd_l_arcs ["_law_net_here", "_law_cell"] sp_arcs := by
  refine T.f_l_arcs.fn.ok sc_l_arcs (fun vs H Q E h => ?_) (fun cdv A outer s H vs Q E hr h => ?_)
  · obtain ⟨a, bs, f, c, B, rfl, _⟩ := h; rfl
  · obtain ⟨a, bs, f, c, B, rfl, hN, hlen, hg, q⟩ := h
    have hu := hu_of hr
    refine ⟨_, (pss_cons (ps_set (i := 2) sc_l_arcs.nd rfl (Or.inl rfl) pe_dnewK)
      (pss_cons (ps_forD PassesOwn.never rfl (pv 0) (pg_name (i := 3) sc_l_arcs.nd rfl (Or.inl rfl))
        (pss_one (ps_dput hu (pv 2) (pv 3) pe_dnewK rfl)))
      (pss_cons (ps_set (i := 4) sc_l_arcs.nd rfl (Or.inl rfl) (pe_op op_fdiv (pv 1) pe_int))
      (pss_cons (ps_set (i := 5) sc_l_arcs.nd rfl (Or.inl rfl) pe_int)
      (pss_cons (ps_for PassesOwn.never rfl (pi_list (pe_callB call_sortedD (by rfl) T.b_sorted boot_sorted (pa_cons (pv 0) pa_nil))) (pg_name (i := 3) sc_l_arcs.nd rfl (Or.inl rfl))
        (pss_one (ps_for PassesOwn.never rfl (pi_list (pe_callB call_sortedD (by rfl) T.b_sorted boot_sorted (pa_cons (pe_dget hu (pv 0) (pv 3) (fun _ _ => rfl)) pa_nil))) (pg_name (i := 6) sc_l_arcs.nd rfl (Or.inl rfl))
        (pss_one (ps_if (pt_cmpR op_lt_str (pv 3) (pv 6) (nomark _))
        (pss_cons (ps_set (i := 7) sc_l_arcs.nd rfl (Or.inl rfl) (pe_op op_mod (pe_ix ix_list (pe_lst (pa_cons (pv 4) (pa_cons (pe_call (ok_l_mix T) (hr.mono (by decide)) rfl T.f_l_mix.mg T.f_l_mix.kp T.f_l_mix.bd .nil pass0 (pa_cons (pv 1) (pa_cons (pv 5) pa_nil))) pa_nil))) (pe_op op_mod (pe_op op_fdiv (pv 1) pe_int) pe_int) (fun _ _ => rfl)) (pe_op op_add (pe_dget hu (pe_dget hu (pv 0) (pv 3) (fun _ _ => rfl)) (pv 6) (fun _ _ => rfl)) pe_int)))
      (pss_cons (ps_set (i := 4) sc_l_arcs.nd rfl (Or.inl rfl) (pe_op op_fdiv (pv 4) pe_int))
      (pss_cons (ps_set (i := 5) sc_l_arcs.nd rfl (Or.inl rfl) (pe_op op_add (pv 5) pe_int))
      (pss_cons (ps_dput hu (pe_dget hu (pv 2) (pv 3) (fun _ _ => rfl)) (pv 6) (pv 7) rfl)
      (pss_one (ps_if (pt_cmpR op_lt (pv 7) (pe_dget hu (pe_dget hu (pv 0) (pv 3) (fun _ _ => rfl)) (pv 6) (fun _ _ => rfl)) (nomark _))
        (pss_one (ps_dput hu (pe_dget hu (pv 2) (pv 6) (fun _ _ => rfl)) (pv 3) (pe_op op_sub (pe_dget hu (pe_dget hu (pv 0) (pv 3) (fun _ _ => rfl)) (pv 6) (fun _ _ => rfl)) (pv 7)) rfl))
        pss_nil))))))
        pss_nil)))))
      (pss_one (ps_ret (pv 2)))))))), ?_⟩
    intro p hp
    have pa : a ≠ p := ne_of_none hN.out hp
    have S0 := Same.updN (o := .dK []) hp
    have hN1 := hN.same S0
    refine ⟨_, rfl, a, _, rfl, .inl hN1.out, fun o H2 fz => forDm hN1.out fz (fun i σ H3 => ∃ x3 cs, σ = [some (.ref a), some (.int c), some (.ref p), x3, none, none, none, none] ∧ (∀ b u, b ≠ a → H b = some u → H3 b = some u) ∧ H3 a = some (.frz o (.dK (encO bs))) ∧ NetAt H3 p cs (fun _ => []) ∧ cs.map (·.1) = (bs.map (·.1)).take i ∧ New H p cs) (fun e => ?_) (fun _ _ _ h => ?_) (fun i k v σ H3 hk pv => ?_) (fun σ H3 pv => ?_)⟩
    · subst e
      refine ⟨_, [], rfl, fun b u hb e => by rw [upd_ne hb]; exact S0 _ _ e, upd_same, ⟨by rw [upd_ne (Ne.symm pa), upd_same]; rfl, fun _ h => absurd h (by simp), List.nodup_nil, by simp⟩, rfl, hp, fun _ h => absurd h (by simp)⟩
    · obtain ⟨_, _, _, _, h, _⟩ := h; exact h
    · obtain ⟨x3, cs, rfl, hrest, ha, hC, hcs, hnew⟩ := pv
      obtain ⟨z, hb, rfl, rfl⟩ := enc_at hk
      have hfresh : z.1 ∉ cs.map (·.1) := by rw [hcs]; exact nodup_take hN.ks (by rw [List.getElem?_map, hb]; rfl)
      have hcl : cs.length ≤ 12 := by
        have := congrArg List.length hcs
        rw [List.length_map, List.length_take, List.length_map] at this
        omega
      intro r2 hr2
      obtain ⟨d1, d2⟩ := hC.add (x := z.1) hfresh hr2 (szl (by omega)) rfl
      have r2a : r2 ≠ a := fun e => by rw [e, ha] at hr2; cases hr2
      refine ⟨_, rfl, _, rfl, p, _, rfl, d1, _, cs ++ [(z.1, r2)], rfl, fun b u hba e => ?_, ?_, d2, ?_, hnew.1, fun y hy => ?_⟩
      · have e3 := hrest b u hba e
        rw [upd_ne (ne_of_none e hp), upd_ne (ne_of_none e3 hr2)]; exact e3
      · rw [upd_ne pa, upd_ne (Ne.symm r2a)]; exact ha
      · rw [List.map_append, hcs, List.take_add_one, List.getElem?_map, hb]; rfl
      · rcases List.mem_append.mp hy with c | c
        · exact hnew.2 y c
        · rw [List.mem_singleton.mp c]
          cases hh : H r2 with
          | none => rfl
          | some u => rw [hrest r2 u r2a hh] at hr2; cases hr2
    · obtain ⟨x3, cs, rfl, hrest, ha, hC, hcs, hnew⟩ := pv
      have el : (encO bs).length = (bs.map (·.1)).length := by unfold encO; simp
      rw [el, List.take_of_length_le (Nat.le_refl _)] at hcs
      have hAS : AS H p (bs.map (·.1)) (upd H3 a (.dK (encO bs))) := by
        refine ⟨cs, fun _ => [], fun b u e => ?_, ?_, hcs, hnew, ⟨fun _ _ => List.nodup_nil, fun _ _ y hy => absurd hy (by simp)⟩, fun _ _ _ _ => Int.le_refl _⟩
        · by_cases hb : b = a
          · subst hb
            rw [upd_same]; rw [hN.out] at e; exact e
          · rw [upd_ne hb]; exact hrest b u hb e
        · exact hC.updo (Ne.symm pa) fun z hz e => by have := hnew.2 z hz; rw [e, hN.out] at this; cases this
      generalize upd H3 a (.dK (encO bs)) = H4 at hAS ⊢
      clear hrest ha hC hcs hnew fz S0 hN1
      generalize hks : bs.map (·.1) = ks at *
      have hkl : ks.length ≤ 12 := by rw [← hks, List.length_map]; exact hlen
      refine ⟨_, rfl, _, _, rfl, rfl, ⟨by decide, by decide⟩, ?_⟩
      have S4 := AS.sm hAS
      have hN4 := hN.same S4
      refine ⟨_, rfl, rfl, a, _, ks, rfl, .inl hN4.out, by rw [← hks]; exact hN4.r.keys, by omega, fun s1 hs1 => ?_⟩
      have U1 := Same.updN (o := .lst ((sortS ks).map V.str)) hs1
      have hL1 : (upd H4 s1 (.lst ((sortS ks).map V.str))) s1 = some (.lst ((sortS ks).map V.str)) := upd_same
      have hAS1 := AS.same hAS U1
      generalize upd H4 s1 (.lst ((sortS ks).map V.str)) = H5 at U1 hL1 hAS1 ⊢
      clear hAS S4 hN4 U1 hs1
      refine ⟨s1, rfl, ⟨_, SqL.of hL1⟩, for_list (xs := (sortS ks).map V.str) (fun i σ H6 => ∃ x3 dg pl x6 x7, σ = [some (.ref a), some (.int c), some (.ref p), x3, some (.int dg), some (.int pl), x6, x7] ∧ 0 ≤ pl ∧ pl ≤ 12 * i ∧ H6 s1 = some (.lst ((sortS ks).map V.str)) ∧ AS H p ks H6) ⟨_, _, _, _, _, rfl, by decide, by decide, hL1, hAS1⟩ (fun i σ H6 _ pv => ?_) (fun i x σ H6 hx pv => ?_) (fun σ H6 pv => ?_)⟩
      · obtain ⟨_, _, _, _, _, rfl, _, _, h, _⟩ := pv
        exact SqL.of h
      · obtain ⟨x3, dg, pl, x6, x7, rfl, hp0, hp1, hL6, hAS6⟩ := pv
        rw [List.getElem?_map] at hx
        cases hk : (sortS ks)[i]? with
        | none => rw [hk] at hx; cases hx
        | some z =>
        rw [hk] at hx
        cases hx
        have hil : i < 12 := by have := (List.getElem?_eq_some_iff.mp hk).1; rw [sortS_len] at this; omega
        have hzm : z ∈ ks := mem_sortS.mp (List.mem_of_getElem? hk)
        have hN6 := hN.same (AS.sm hAS6)
        obtain ⟨b1, hb1⟩ := addrOf_some (bs := bs) (x := z) (by rw [hks]; exact hzm)
        have hrl : (f z).length ≤ 12 := by
          have := nd_len (hg.nd z hzm) (fun y hy => by
            cases cc : look (f z) y with
            | none => exact absurd hy (look_none.mp cc)
            | some v => exact (hg.val z y v hzm cc).1)
          rw [List.length_map] at this
          omega
        refine ⟨_, rfl, _, rfl, a, _, rfl, hN6.r.dget hb1, rfl, b1, _, (f z).map (·.1), rfl, hN6.r.inn _ (addrOf_mem hb1), keysS_encI _, by rw [List.length_map]; omega, fun s2 hs2 => ?_⟩
        have U2 := Same.updN (o := .lst ((sortS ((f z).map (·.1))).map V.str)) hs2
        have hL2 : (upd H6 s2 (.lst ((sortS ((f z).map (·.1))).map V.str))) s2 = some (.lst ((sortS ((f z).map (·.1))).map V.str)) := upd_same
        have hAS7 := AS.same hAS6 U2
        have hL7 := U2 _ _ hL6
        generalize upd H6 s2 (.lst ((sortS ((f z).map (·.1))).map V.str)) = H7 at U2 hL2 hAS7 hL7 ⊢
        clear hN6 hAS6 U2 hs2 hL6
        refine ⟨s2, rfl, ⟨_, SqL.of hL2⟩, for_list (xs := (sortS ((f z).map (·.1))).map V.str) (fun j σ H8 => ∃ dg pl x6 x7, σ = [some (.ref a), some (.int c), some (.ref p), some (.str z), some (.int dg), some (.int pl), x6, x7] ∧ 0 ≤ pl ∧ pl ≤ 12 * i + j ∧ H8 s1 = some (.lst ((sortS ks).map V.str)) ∧ H8 s2 = some (.lst ((sortS ((f z).map (·.1))).map V.str)) ∧ AS H p ks H8) ⟨_, _, _, _, rfl, hp0, by omega, hL7, hL2, hAS7⟩ (fun j σ H8 _ pv => ?_) (fun j x σ H8 hx pv => ?_) (fun σ H8 pv => ?_)⟩
        · obtain ⟨_, _, _, _, rfl, _, _, _, h, _⟩ := pv
          exact SqL.of h
        · obtain ⟨dg, pl, x6, x7, rfl, hp0, hp1, hL8, hM8, hAS8⟩ := pv
          rw [List.getElem?_map] at hx
          cases hk2 : (sortS ((f z).map (·.1)))[j]? with
          | none => rw [hk2] at hx; cases hx
          | some y =>
          rw [hk2] at hx
          cases hx
          have hjl : j < 12 := by have := (List.getElem?_eq_some_iff.mp hk2).1; rw [sortS_len, List.length_map] at this; omega
          have hyr : y ∈ (f z).map (·.1) := mem_sortS.mp (List.mem_of_getElem? hk2)
          obtain ⟨v, hv⟩ : ∃ v, look (f z) y = some v := by
            cases cc : look (f z) y with
            | none => exact absurd hyr (look_none.mp cc)
            | some v => exact ⟨v, rfl⟩
          obtain ⟨hym, hv1, _⟩ := hg.val z y v hzm hv
          have hN8 := hN.same (AS.sm hAS8)
          refine ⟨_, rfl, _, rfl, _, _, rfl, rfl, _, rfl, iteB (fun _ => ?_) (fun _ => ?_)⟩
          · refine ⟨_, rfl, _, rfl, _, rfl, c, pl, rfl, hp0, by omega, (by show 2 ≤ sizeLine; decide), fun lp hlp => ?_⟩
            obtain ⟨w0, hw0⟩ := pick2 (a := dg) (b := mixF c pl) (n := c / 8)
            refine ⟨_, rfl, _, _, rfl, rfl, ⟨by decide, by decide⟩, _, _, rfl, rfl, (by show (0 : Int) < 2; decide), lp, _, _, .int w0, rfl, rfl, SqL.of upd_same, hw0, ?_⟩
            have U3 := Same.updN (o := .lst [V.int dg, V.int (mixF c pl)]) hlp
            have hAS9 := AS.same hAS8 U3
            have hL9 := U3 _ _ hL8
            have hM9 := U3 _ _ hM8
            have hN9 := hN8.same U3
            generalize upd H8 lp (.lst [V.int dg, V.int (mixF c pl)]) = H9 at U3 hAS9 hL9 hM9 hN9 ⊢
            clear hAS8 hL8 hM8 U3 hlp hN8
            refine ⟨_, rfl, _, rfl, a, _, rfl, hN9.r.dget hb1, _, rfl, b1, _, rfl, hN9.r.rget' hb1 hv, _, _, rfl, rfl, _, _, rfl, rfl, (by show (0 : Int) < v + 1; omega), ?_⟩
            have r1 := Int.emod_nonneg w0 (show v + 1 ≠ 0 by omega)
            have r2 := Int.emod_lt_of_pos w0 (show 0 < v + 1 by omega)
            refine ⟨_, rfl, _, _, rfl, rfl, ⟨by decide, by decide⟩, _, rfl, _, _, rfl, rfl, ?_⟩
            obtain ⟨b2, g1, g2⟩ := AS.put hAS9 hkl hzm hym
            obtain ⟨H10, g3, hAS10, kl⟩ := g2 (w0 % (v + 1)) r1
            refine ⟨_, rfl, _, rfl, _, rfl, p, _, rfl, g1, _, rfl, b2, H10, rfl, g3, ?_⟩
            have hN10 := hN.same (AS.sm hAS10)
            have hL10 := kl _ _ hL9
            have hM10 := kl _ _ hM9
            refine ⟨_, rfl, _, rfl, _, rfl, a, _, rfl, hN10.r.dget hb1, _, rfl, b1, _, rfl, hN10.r.rget' hb1 hv, _, _, rfl, rfl, _, rfl, iteD (fun hlt => ?_) (fun _ => ?_)⟩
            · obtain ⟨b3, g4, g5⟩ := AS.put hAS10 hkl hym hzm
              obtain ⟨H11, g6, hAS11, kl2⟩ := g5 (v - w0 % (v + 1)) (by omega)
              refine ⟨_, rfl, _, rfl, a, _, rfl, hN10.r.dget hb1, _, rfl, b1, _, rfl, hN10.r.rget' hb1 hv, _, rfl, _, _, rfl, rfl, _, rfl, _, rfl, p, _, rfl, g4, _, rfl, b3, H11, rfl, g6, ?_⟩
              exact ⟨_, _, _, _, rfl, by omega, by omega, kl2 _ _ hL10, kl2 _ _ hM10, hAS11⟩
            · exact ⟨_, _, _, _, rfl, by omega, by omega, hL10, hM10, hAS10⟩
          · exact ⟨_, _, _, _, rfl, hp0, by omega, hL8, hM8, hAS8⟩
        · obtain ⟨dg, pl, x6, x7, rfl, hp0, hp1, hL8, hM8, hAS8⟩ := pv
          refine ⟨_, _, _, _, _, rfl, hp0, ?_, hL8, hAS8⟩
          rw [List.length_map, sortS_len, List.length_map] at hp1
          omega
      · obtain ⟨x3, dg, pl, x6, x7, rfl, _, _, _, hAS6⟩ := pv
        exact ⟨_, rfl, q p H6 hAS6⟩
end
end K62

set_option Elab.async false
set_option linter.all false
set_option maxRecDepth 100000
set_option maxHeartbeats 4000000
namespace K62
open PySem L2 PySem.Spec PyProof.Rows
section
variable {P : Program} {w : World} {K : PySem.W.Frag} {mg : Str → Option Value} {base : Heap} {t : Adr}
/-! ### arcs bent -/
theorem encO_drop (ds : Outer) (x : Str) : dropK (encO ds) (Sum.inr x) = encO (ds.filter fun z => decide (z.1 ≠ x)) := by
  unfold dropK encO
  rw [List.filter_map]
  congr 1
  refine List.filter_congr fun z _ => ?_
  simp
theorem popO {H : Hp} {a : Addr} {bs : Outer} {f : Str → L2.Row} (n : NetAt H a bs f) (x : Str) : NetAt (upd H a (.dK (encO (bs.filter fun z => decide (z.1 ≠ x))))) a (bs.filter fun z => decide (z.1 ≠ x)) f := by
  have nd := List.nodup_cons.mp n.nd
  refine ⟨upd_same, fun z hz => ?_, ?_, ?_⟩
  · have hz := (List.mem_filter.mp hz).1
    rw [upd_ne]
    · exact n.inn z hz
    · intro e; exact nd.1 (List.mem_map.mpr ⟨z, hz, e⟩)
  · exact List.Sublist.nodup (List.Sublist.map _ List.filter_sublist) n.ks
  · refine List.nodup_cons.mpr ⟨fun h => nd.1 ?_, List.Sublist.nodup (List.Sublist.map _ List.filter_sublist) nd.2⟩
    obtain ⟨z, hz, e⟩ := List.mem_map.mp h
    exact List.mem_map.mpr ⟨z, (List.mem_filter.mp hz).1, e⟩
def reO (bs : Outer) (x : Str) (b : Addr) : Outer := bs.map fun z => if z.1 = x then (z.1, b) else z
theorem reO_keys (bs : Outer) (x : Str) (b : Addr) : (reO bs x b).map (·.1) = bs.map (·.1) := by
  unfold reO
  rw [List.map_map]
  refine List.map_congr_left fun z _ => ?_
  show (if z.1 = x then (z.1, b) else z).1 = z.1
  split <;> rfl
theorem encO_re {bs : Outer} {x : Str} (h : x ∈ bs.map (·.1)) (b : Addr) : putK (encO bs) (Sum.inr x) (.ref b) = encO (reO bs x b) := by
  unfold putK
  obtain ⟨z, hz, e⟩ := List.mem_map.mp h
  have hany : ((encO bs).any fun kv => decide (kv.1 = (Sum.inr x : Key))) = true := List.any_eq_true.mpr ⟨(Sum.inr z.1, V.ref z.2), by unfold encO; exact List.mem_map.mpr ⟨z, hz, rfl⟩, by simp [e]⟩
  rw [if_pos hany]
  unfold encO reO
  rw [List.map_map, List.map_map]
  refine List.map_congr_left fun y _ => ?_
  show (if (Sum.inr y.1 : Key) = Sum.inr x then ((Sum.inr y.1 : Key), V.ref b) else (Sum.inr y.1, V.ref y.2)) = ((Sum.inr (if y.1 = x then (y.1, b) else y).1 : Key), V.ref (if y.1 = x then (y.1, b) else y).2)
  by_cases c : y.1 = x
  · rw [if_pos c, if_pos (by rw [c])]
  · rw [if_neg c, if_neg (fun q => c (Sum.inr.inj q))]
theorem reput {H : Hp} {a b : Addr} {bs : Outer} {f : Str → L2.Row} {x : Str} (n : NetAt H a bs f) (hx : x ∈ bs.map (·.1)) (hb : H b = none) (hl : bs.length < sizeLine) :
    DPut (upd H b (.dK [])) a (.str x) (.ref b) (upd (upd H b (.dK [])) a (.dK (encO (reO bs x b)))) ∧ NetAt (upd (upd H b (.dK [])) a (.dK (encO (reO bs x b)))) a (reO bs x b) (fun z => if z = x then [] else f z) := by
  have ab : a ≠ b := ne_of_none n.out hb
  have nd := List.nodup_cons.mp n.nd
  have hn : ∀ q ∈ bs, q.2 ≠ b := fun q hq => ne_of_none (n.inn q hq) hb
  constructor
  · have := DPut.k (H := upd H b (.dK [])) (a := a) (kvs := encO bs) (k := Sum.inr x) (v := .ref b) (by rw [upd_ne ab]; exact n.out) (by unfold encO; rw [List.length_map]; exact hl)
    rw [encO_re hx] at this
    exact this
  · refine ⟨upd_same, fun z hz => ?_, by rw [reO_keys]; exact n.ks, ?_⟩
    · obtain ⟨y, hy, e⟩ := List.mem_map.mp hz
      by_cases c : y.1 = x
      · rw [if_pos c] at e
        subst e
        show (upd (upd H b (.dK [])) a _) b = some (.dK (encI (if y.1 = x then [] else f y.1)))
        rw [upd_ne (Ne.symm ab), upd_same, if_pos c]; rfl
      · rw [if_neg c] at e
        subst e
        show (upd (upd H b (.dK [])) a _) y.2 = some (.dK (encI (if y.1 = x then [] else f y.1)))
        rw [upd_ne (fun e => nd.1 (List.mem_map.mpr ⟨y, hy, e⟩)), upd_ne (hn y hy), if_neg c]
        exact n.inn y hy
    · have key : ∀ (l : Outer), (l.map (·.1)).Nodup → (l.map (·.2)).Nodup → (∀ q ∈ l, q.2 ≠ b) → ((reO l x b).map (·.2)).Nodup := fun l => by
        induction l with
        | nil => intro _ _ _; exact List.nodup_nil
        | cons z l ih =>
          intro h1 h2 h3
          have h1' := List.nodup_cons.mp h1
          have h2' := List.nodup_cons.mp h2
          have ihl := ih h1'.2 h2'.2 fun q hq => h3 q (List.mem_cons_of_mem _ hq)
          show ((if z.1 = x then (z.1, b) else z).2 :: (reO l x b).map (·.2)).Nodup
          refine List.nodup_cons.mpr ⟨fun hm => ?_, ihl⟩
          obtain ⟨y, hy, e⟩ := List.mem_map.mp hm
          obtain ⟨w, hw, e2⟩ := List.mem_map.mp hy
          by_cases c : z.1 = x
          · rw [if_pos c] at e
            by_cases d : w.1 = x
            · exact h1'.1 (List.mem_map.mpr ⟨w, hw, by rw [d]; exact c.symm⟩)
            · rw [if_neg d] at e2
              subst e2
              exact h3 w (List.mem_cons_of_mem _ hw) e
          · rw [if_neg c] at e
            by_cases d : w.1 = x
            · rw [if_pos d] at e2
              subst e2
              exact h3 z (by simp) e.symm
            · rw [if_neg d] at e2
              subst e2
              exact h2'.1 (List.mem_map.mpr ⟨w, hw, e⟩)
      refine List.nodup_cons.mpr ⟨fun hm => ?_, key bs n.ks nd.2 hn⟩
      obtain ⟨y, hy, e⟩ := List.mem_map.mp hm
      obtain ⟨w, hw, e2⟩ := List.mem_map.mp hy
      by_cases d : w.1 = x
      · rw [if_pos d] at e2
        subst e2
        exact ab e.symm
      · rw [if_neg d] at e2
        subst e2
        exact nd.1 (List.mem_map.mpr ⟨w, hw, e⟩)
theorem AS.addZ {H H2 : Hp} {p r : Addr} {ks : List Str} {x : Str} (h : AS H p ks H2) (hk : ks.length ≤ 100) (hr : H2 r = none) : ∃ H3 ks', DPut (upd H2 r (.dK [])) p (.str x) (.ref r) H3 ∧ AS H p ks' H3 ∧ ks'.length ≤ ks.length + 1 ∧ (∀ y ∈ ks, y ∈ ks') ∧ KeepL H2 H3 := by
  obtain ⟨ds, g, S, hN, hds, hnew, hro, hnn⟩ := h
  have hdl : ds.length = ks.length := by rw [← hds, List.length_map]
  have hr0 : H r = none := S.free hr
  have keepL : ∀ {o : HO} (c : Addr) (xs : List V), H2 c = some (.lst xs) → (upd (upd H2 r (.dK [])) p o) c = some (.lst xs) := fun {o} c xs hc => by
    rw [upd_ne (ne_of hc hN.out (by intro z; cases z)), upd_ne (ne_of_none hc hr)]; exact hc
  have rc0 : ∀ u w, rc (fun z => if z = x then [] else g z) u w = if u = x then 0 else rc g u w := fun u w => by
    unfold rc
    by_cases c : u = x
    · simp only [c, if_true]; rfl
    · simp only [c, if_false]
  by_cases hx : x ∈ ks
  · obtain ⟨d1, d2⟩ := reput hN (by rw [hds]; exact hx) hr (szl (by omega))
    refine ⟨_, ks, d1, ⟨_, _, (S.trans (Same.updN hr)).upd hnew.1, d2, by rw [reO_keys, hds], ⟨hnew.1, fun z hz => ?_⟩, ⟨fun u hu => ?_, fun u hu y hy => ?_⟩, fun u hu w hw => ?_⟩, by omega, fun y hy => hy, keepL⟩
    · obtain ⟨y, hy, e⟩ := List.mem_map.mp hz
      by_cases c : y.1 = x
      · rw [if_pos c] at e; subst e; exact hr0
      · rw [if_neg c] at e; subst e; exact hnew.2 y hy
    · by_cases c : u = x
      · simp [c]
      · simp only [c, if_false]; exact hro.nd u hu
    · by_cases c : u = x
      · simp [c] at hy
      · simp only [c, if_false] at hy; exact hro.inn u hu y hy
    · rw [rc0]; split
      · exact Int.le_refl _
      · exact hnn u hu w hw
  · have hN' : NetAt H2 p ds (fun z => if z = x then [] else g z) := ⟨hN.out, fun z hz => by
      have : z.1 ≠ x := fun e => hx (by rw [← hds, ← e]; exact List.mem_map.mpr ⟨z, hz, rfl⟩)
      show H2 z.2 = some (.dK (encI (if z.1 = x then [] else g z.1)))
      rw [if_neg this]; exact hN.inn z hz, hN.ks, hN.nd⟩
    obtain ⟨d1, d2⟩ := hN'.add (x := x) (by rw [hds]; exact hx) hr (szl (by omega)) (by simp)
    refine ⟨_, ks ++ [x], d1, ⟨_, _, (S.trans (Same.updN hr)).upd hnew.1, d2, by rw [List.map_append, hds]; rfl, ⟨hnew.1, fun z hz => ?_⟩, ⟨fun u hu => ?_, fun u hu y hy => ?_⟩, fun u hu w hw => ?_⟩, by simp, fun y hy => List.mem_append_left _ hy, keepL⟩
    · rcases List.mem_append.mp hz with c | c
      · exact hnew.2 z c
      · rw [List.mem_singleton.mp c]; exact hr0
    · by_cases c : u = x
      · simp [c]
      · simp only [c, if_false]
        exact hro.nd u ((List.mem_append.mp hu).resolve_right (by simpa using c))
    · by_cases c : u = x
      · simp [c] at hy
      · simp only [c, if_false] at hy
        exact List.mem_append_left _ (hro.inn u ((List.mem_append.mp hu).resolve_right (by simpa using c)) y hy)
    · rw [rc0]
      by_cases c : u = x
      · rw [if_pos c]; exact Int.le_refl _
      · rw [if_neg c]
        have hu' := (List.mem_append.mp hu).resolve_right (by simpa using c)
        by_cases d : w = x
        · have : look (g u) w = none := look_none.mpr fun z => hx (by rw [← d]; exact hro.inn u hu' w z)
          unfold rc; rw [this]; exact Int.le_refl _
        · exact hnn u hu' w ((List.mem_append.mp hw).resolve_right (by simpa using d))
theorem upd_comm {H : Hp} {a b : Addr} {u v : HO} (h : a ≠ b) : upd (upd H a u) b v = upd (upd H b v) a u := by
  funext c
  by_cases h1 : c = a
  · have h2 : c ≠ b := fun e => h (h1.symm.trans e)
    subst h1
    rw [upd_ne h2, upd_same, upd_same]
  · rw [upd_ne (H := upd H b v) h1]
    by_cases h2 : c = b
    · subst h2; rw [upd_same, upd_same]
    · rw [upd_ne h2, upd_ne h2, upd_ne h1]
theorem AS.at {H H2 : Hp} {p : Addr} {ks : List Str} (h : AS H p ks H2) (hk : ks.length ≤ 12) {x y : Str} (hx : x ∈ ks) (hy : y ∈ ks) : ∃ b o n, DGet H2 p (.str x) (some (.ref b)) ∧ IsD H2 b ∧ DGet H2 b (.str y) o ∧ o.getD (.int 0) = .int n ∧ 0 ≤ n ∧ ∀ v : Int, 0 ≤ v → ∃ H3, DPut H2 b (.str y) (.int v) H3 ∧ AS H p ks H3 ∧ KeepL H2 H3 := by
  have hc := h
  obtain ⟨ds, g, S, hN, hds, hnew, hr, hnn⟩ := hc
  obtain ⟨b, hb⟩ := addrOf_some (bs := ds) (x := x) (by rw [hds]; exact hx)
  refine ⟨b, _, rc g x y, hN.r.dget hb, .inl ⟨_, hN.r.inn _ (addrOf_mem hb)⟩, hN.r.rget hb, ?_, hnn x hx y hy, fun v hv => ?_⟩
  · unfold rc
    cases look (g x) y <;> rfl
  · obtain ⟨p1, p2⟩ := hN.put hb v y (szl (by have := hr.len hx; omega))
    refine ⟨_, p1, ⟨ds, _, Same.netput S hnew hb, p2, hds, hnew, hr.putR hx hy, fun u hu w hw => ?_⟩, fun c xs hc => ?_⟩
    · rw [rc_putR]
      split
      · exact hv
      · exact hnn u hu w hw
    · have := hN.inn _ (addrOf_mem hb)
      rw [upd_ne (ne_of hc this (by intro z; cases z))]; exact hc
def sp_bent : Sp := fun vs H Q _ => ∃ (p : Addr) (c : Int) (ks : List Str) (H0 : Hp), vs = [.ref p, .int c] ∧ AS H0 p ks H ∧ ks.length ≤ 7 ∧ ∀ H' ks', AS H0 p ks' H' → ks'.length ≤ 8 → Q (.ref p) H'
theorem ok_l_bent (T : Txt K mg t) : FnOk P w K mg base CX0 2 t.l_bent t.fd_l_bent ["_law_arcs_here", "_law_cell"] sp_bent := by
  refine T.f_l_bent.fn.ok sc_l_bent (fun vs H Q E h => ?_) (fun cdv A outer s H vs Q E hr h => ?_)
  · obtain ⟨p, c, ks, H0, rfl, _⟩ := h; rfl
  · obtain ⟨p, c, ks, H0, rfl, hAS, hkl, q⟩ := h
    have hu := hu_of hr
    refine ⟨_, (pss_cons (ps_set (i := 2) sc_l_bent.nd rfl (Or.inl rfl) (pe_callB call_sortedD (by rfl) T.b_sorted boot_sorted (pa_cons (pv 0) pa_nil)))
      (pss_cons (ps_if (pt_cmpR op_lt (pe_callB call_len (by rfl) T.b_len boot_len' (pa_cons (pv 2) pa_nil)) pe_int (nomark _))
        (pss_one (ps_ret (pv 0)))
        pss_nil)
      (pss_cons (ps_set (i := 3) sc_l_bent.nd rfl (Or.inl rfl) (pe_ix ix_list (pv 2) (pe_op op_mod (pe_call (ok_l_mix T) (hr.mono (by decide)) rfl T.f_l_mix.mg T.f_l_mix.kp T.f_l_mix.bd .nil pass0 (pa_cons (pv 1) (pa_cons pe_int pa_nil))) (pe_callB call_len (by rfl) T.b_len boot_len' (pa_cons (pv 2) pa_nil))) (fun _ _ => rfl)))
      (pss_cons (ps_set (i := 4) sc_l_bent.nd rfl (Or.inl rfl) (pe_ix ix_list (pv 2) (pe_op op_mod (pe_call (ok_l_mix T) (hr.mono (by decide)) rfl T.f_l_mix.mg T.f_l_mix.kp T.f_l_mix.bd .nil pass0 (pa_cons (pv 1) (pa_cons pe_int pa_nil))) (pe_callB call_len (by rfl) T.b_len boot_len' (pa_cons (pv 2) pa_nil))) (fun _ _ => rfl)))
      (pss_cons (ps_set (i := 5) sc_l_bent.nd rfl (Or.inl rfl) (pe_op op_mod (pv 1) pe_int))
      (pss_cons (ps_if (PW.pt (pw_and (pt_cmpR op_eq (pv 5) pe_int (nomark _)) (pw_and1 (pt_cmpR op_ne (pv 3) (pv 4) (nomark _)))))
        (pss_one (ps_dput hu (pe_dget hu (pv 0) (pv 3) (fun _ _ => rfl)) (pv 4) (pe_op op_add (pe_dget2 hu (pe_dget hu (pv 0) (pv 3) (fun _ _ => rfl)) (pv 4) pe_int ⟨rfl, rfl, rfl, rfl⟩) pe_int) rfl))
        pss_nil)
      (pss_cons (ps_if (PW.pt (pw_and (pt_cmpR op_eq (pv 5) pe_int (nomark _)) (pw_and1 (pt_cmpR op_ne (pv 3) (pv 4) (nomark _)))))
        (pss_one (ps_dput hu (pe_dget hu (pv 0) (pv 3) (fun _ _ => rfl)) (pv 4) (pe_callB (call_max2 rfl) (by rfl) T.b_max boot_max' (pa_cons pe_int (pa_cons (pe_op op_sub (pe_dget2 hu (pe_dget hu (pv 0) (pv 3) (fun _ _ => rfl)) (pv 4) pe_int ⟨rfl, rfl, rfl, rfl⟩) pe_int) pa_nil))) rfl))
        pss_nil)
      (pss_cons (ps_if (pt_cmpR op_eq (pv 5) pe_int (nomark _))
        (pss_one (ps_dput hu (pv 0) pe_str pe_dnewK rfl))
        pss_nil)
      (pss_cons (ps_if (pt_cmpR op_eq (pv 5) pe_int (nomark _))
        (pss_cons (ps_expr (pe_dpop1 (pv 0) (pv 3) ⟨rfl, rfl, rfl, rfl⟩))
      (pss_one (ps_forD PassesOwn.never rfl (pv 0) (pg_name (i := 6) sc_l_bent.nd rfl (Or.inl rfl))
        (pss_one (ps_expr (pe_dpopU (pe_dget hu (pv 0) (pv 6) (fun _ _ => rfl)) (pv 3) pe_non ⟨rfl, rfl, rfl, rfl⟩))))))
        pss_nil)
      (pss_one (ps_ret (pv 0)))))))))))), ?_⟩
    have hkn : ks.Nodup := by obtain ⟨ds, g, _, hN, hds, _⟩ := hAS; rw [← hds]; exact hN.ks
    have hrd : ∃ kvs, H p = some (.dK kvs) ∧ keysS kvs ks := by
      obtain ⟨ds, g, _, hN, hds, _⟩ := hAS
      exact ⟨_, hN.out, by rw [← hds]; exact hN.r.keys⟩
    obtain ⟨kvs, hkv, hks⟩ := hrd
    refine ⟨_, rfl, rfl, p, kvs, ks, rfl, .inl hkv, hks, by omega, fun s1 hs1 => ?_⟩
    have U1 := Same.updN (o := .lst ((sortS ks).map V.str)) hs1
    have hL1 : (upd H s1 (.lst ((sortS ks).map V.str))) s1 = some (.lst ((sortS ks).map V.str)) := upd_same
    have hAS1 := AS.same hAS U1
    generalize upd H s1 (.lst ((sortS ks).map V.str)) = H1 at U1 hL1 hAS1 ⊢
    clear hAS U1 hs1 hkv hks
    have hsl : (sortS ks).length = ks.length := sortS_len ks
    refine ⟨_, rfl, _, ks.length, rfl, .inl ⟨_, SqL.of hL1, by rw [List.length_map, hsl]⟩, _, _, rfl, rfl, _, rfl, iteD (fun h => ?_) (fun h => ?_)⟩
    · exact ⟨_, rfl, q H1 ks hAS1 (by omega)⟩
    have m1 := Int.emod_nonneg (mixF c 50) (show (ks.length : Int) ≠ 0 by omega)
    have m2 := Int.emod_lt_of_pos (mixF c 50) (show (0 : Int) < (ks.length : Int) by omega)
    have m3 := Int.emod_nonneg (mixF c 51) (show (ks.length : Int) ≠ 0 by omega)
    have m4 := Int.emod_lt_of_pos (mixF c 51) (show (0 : Int) < (ks.length : Int) by omega)
    obtain ⟨x, hx1, _, hx3⟩ := atI_ix (g := V.str) (l := sortS ks) (i := mixF c 50 % (ks.length : Int)) (by omega) (by omega)
    obtain ⟨y, hy1, _, hy3⟩ := atI_ix (g := V.str) (l := sortS ks) (i := mixF c 51 % (ks.length : Int)) (by omega) (by omega)
    have hx := mem_sortS.mp hx1
    have hy := mem_sortS.mp hy1
    refine ⟨_, rfl, _, rfl, c, 50, rfl, by decide, by decide, _, rfl, _, ks.length, rfl, .inl ⟨_, SqL.of hL1, by rw [List.length_map, hsl]⟩, _, _, rfl, rfl, (by show (0 : Int) < (ks.length : Int); omega), s1, _, _, _, rfl, rfl, SqL.of hL1, hx3, ?_⟩
    refine ⟨_, rfl, _, rfl, c, 51, rfl, by decide, by decide, _, rfl, _, ks.length, rfl, .inl ⟨_, SqL.of hL1, by rw [List.length_map, hsl]⟩, _, _, rfl, rfl, (by show (0 : Int) < (ks.length : Int); omega), s1, _, _, _, rfl, rfl, SqL.of hL1, hy3, ?_⟩
    refine ⟨_, rfl, _, _, rfl, rfl, (by show (0 : Int) < 8; decide), ?_⟩
    dsimp only [gName]
    obtain ⟨wy, hwy⟩ : ∃ wy, wy = c % 8 := ⟨_, rfl⟩
    rw [← hwy]
    show tSeq (tIfS _ _ _) _ _ _ _
    refine seqIf (fun σ H2 => σ = [some (.ref p), some (.int c), some (.ref s1), some (.str x), some (.str y), some (.int wy), none] ∧ AS H0 p ks H2) (fun σ H2 pv => ?_) (fun cont => ?_)
    · obtain ⟨rfl, hAS2⟩ := pv
      refine seqIf (fun σ H2 => σ = [some (.ref p), some (.int c), some (.ref s1), some (.str x), some (.str y), some (.int wy), none] ∧ AS H0 p ks H2) (fun σ H3 pv => ?_) (fun cont => ?_)
      · obtain ⟨rfl, hAS3⟩ := pv
        refine seqIf (fun σ H2 => σ = [some (.ref p), some (.int c), some (.ref s1), some (.str x), some (.str y), some (.int wy), none] ∧ ∃ ks', AS H0 p ks' H2 ∧ ks'.length ≤ 8 ∧ x ∈ ks') (fun σ H4 pv => ?_) (fun cont => ?_)
        · obtain ⟨rfl, ks', hAS4, hl4, hx4⟩ := pv
          refine seqIf (fun σ H2 => (∃ x6, σ = [some (.ref p), some (.int c), some (.ref s1), some (.str x), some (.str y), some (.int wy), x6]) ∧ ∃ ks', AS H0 p ks' H2 ∧ ks'.length ≤ 8) (fun σ H5 pv => ?_) (fun cont => ?_)
          · obtain ⟨⟨x6, rfl⟩, ks5, hAS5, hl5⟩ := pv
            exact ⟨_, rfl, q H5 ks5 hAS5 hl5⟩
          · refine ⟨_, rfl, rfl, _, rfl, iteD (fun _ => ?_) (fun _ => cont _ _ ⟨⟨_, rfl⟩, ks', hAS4, hl4⟩)⟩
            obtain ⟨ds, g, S4, hN4, hds, hnew, hro, hnn⟩ := hAS4
            obtain ⟨b0, hb0⟩ := addrOf_some (bs := ds) (x := x) (by rw [hds]; exact hx4)
            refine ⟨_, rfl, p, rfl, .inl ⟨_, .inl hN4.out⟩, _, rfl, encO ds, Sum.inr x, .ref b0, hN4.out, rfl, by rw [valV_encO, hb0]; rfl, ?_⟩
            rw [encO_drop]
            have hN5 := popO hN4 x
            obtain ⟨es, hes⟩ : ∃ es, es = ds.filter fun z => decide (z.1 ≠ x) := ⟨_, rfl⟩
            rw [← hes] at hN5 ⊢
            have S5 : Same H0 (upd H4 p (.dK (encO es))) := S4.upd hnew.1
            have hek : es.map (·.1) = ks'.filter fun z => decide (z ≠ x) := by rw [hes, ← hds, List.filter_map]; rfl
            have hes2 : ∀ z ∈ es, z ∈ ds := fun z hz => by rw [hes] at hz; exact (List.mem_filter.mp hz).1
            generalize upd H4 p (.dK (encO es)) = H5 at hN5 S5 ⊢
            clear hN4 S4
            refine ⟨_, rfl, p, _, rfl, .inl hN5.out, fun o H6 fz => forDm hN5.out fz (fun i σ H7 => ∃ x6 gi, σ = [some (.ref p), some (.int c), some (.ref s1), some (.str x), some (.str y), some (.int wy), x6] ∧ H7 p = some (.frz o (.dK (encO es))) ∧ NetAt (upd H7 p (.dK (encO es))) p es gi ∧ Same H0 (upd H7 p (.dK (encO es))) ∧ (∀ (j : Nat) z, es[j]? = some z → gi z.1 = if j < i then dropRow (g z.1) x else g z.1)) (fun e => ?_) (fun _ _ _ h => ?_) (fun i k v σ H7 hk pv => ?_) (fun σ H7 pv => ?_)⟩
            · subst e
              refine ⟨_, g, rfl, upd_same, ?_, ?_, fun j z _ => by rw [if_neg (by omega)]⟩
              · rw [upd_upd, upd_self hN5.out]; exact hN5
              · rw [upd_upd, upd_self hN5.out]; exact S5
            · obtain ⟨_, _, _, h, _⟩ := h; exact h
            · obtain ⟨x6, gi, rfl, hp7, hN7, S7, hgi⟩ := pv
              obtain ⟨z, hzi, rfl, rfl⟩ := enc_at hk
              have hz : z ∈ es := List.mem_of_getElem? hzi
              have had := mem_addrOf hN7.ks (x := z.1) (b := z.2) hz
              have hzp : z.2 ≠ p := fun e => (List.nodup_cons.mp hN7.nd).1 (List.mem_map.mpr ⟨z, hz, e⟩)
              have hrow : H7 z.2 = some (.dK (encI (gi z.1))) := by have := hN7.inn z hz; rw [upd_ne hzp] at this; exact this
              refine ⟨_, rfl, _, rfl, p, .ref z.2, rfl, .inl ⟨encO es, Sum.inr z.1, .inr ⟨o, hp7⟩, rfl, by rw [valV_encO, had]; rfl⟩, z.2, rfl, .inl ⟨_, .inl hrow⟩, _, rfl, _, Sum.inr x, hrow, rfl, fun _ => ?_⟩
              have hc := cut_row hN7 had x
              rw [upd_comm (Ne.symm hzp)] at hc
              refine ⟨_, _, rfl, ?_, hc, ?_, fun j y hy => ?_⟩
              · rw [upd_ne (Ne.symm hzp)]; exact hp7
              · rw [← upd_comm (Ne.symm hzp)]
                exact S7.upd (hnew.2 z (hes2 z hz))
              · by_cases e : y.1 = z.1
                · have hji : j = i := nd_ix hN7.ks (x := z.1) (by rw [List.getElem?_map, hy]; simp [e]) (by rw [List.getElem?_map, hzi]; rfl)
                  subst hji
                  rw [hzi] at hy
                  cases hy
                  rw [dropR_at, if_pos (by omega), hgi j z hzi, if_neg (by omega)]
                · have hji : j ≠ i := fun e2 => by subst e2; rw [hzi] at hy; cases hy; exact e rfl
                  rw [dropR_ne e, hgi j y hy]
                  by_cases c1 : j < i
                  · rw [if_pos c1, if_pos (by omega)]
                  · rw [if_neg c1, if_neg (by omega)]
            · obtain ⟨x6, gi, rfl, hp7, hN7, S7, hgi⟩ := pv
              have el : (encO es).length = es.length := by unfold encO; simp
              rw [el] at hgi
              have hgi' : ∀ u ∈ es.map (·.1), gi u = dropRow (g u) x := fun u hu => by
                obtain ⟨z, hz, e⟩ := List.mem_map.mp hu
                obtain ⟨j, hj⟩ := List.getElem?_of_mem hz
                have := hgi j z hj
                rw [if_pos (List.getElem?_eq_some_iff.mp hj).1] at this
                rw [← e]; exact this
              have hsub : ∀ u ∈ es.map (·.1), u ∈ ks' ∧ u ≠ x := fun u hu => by
                rw [hek] at hu
                have := List.mem_filter.mp hu
                exact ⟨this.1, by simpa using this.2⟩
              refine cont _ _ ⟨⟨_, rfl⟩, es.map (·.1), ⟨es, gi, S7, hN7, rfl, ⟨hnew.1, fun z hz => hnew.2 z (hes2 z hz)⟩, ⟨fun u hu => ?_, fun u hu w hw => ?_⟩, fun u hu w hw => ?_⟩, ?_⟩
              · rw [hgi' u hu]; exact drop_nd (hro.nd u (hsub u hu).1)
              · rw [hgi' u hu] at hw
                obtain ⟨e, he, rfl⟩ := List.mem_map.mp hw
                unfold dropRow at he
                have := List.mem_filter.mp he
                rw [hek]
                exact List.mem_filter.mpr ⟨hro.inn u (hsub u hu).1 _ (List.mem_map.mpr ⟨e, this.1, rfl⟩), by simpa using this.2⟩
              · have : rc gi u w = rc g u w := by
                  unfold rc
                  rw [hgi' u hu, look_drop, if_neg (Ne.symm (hsub w hw).2)]
                rw [this]
                exact hnn u (hsub u hu).1 w (hsub w hw).1
              · rw [hek]
                exact Nat.le_trans (List.length_filter_le _ _) hl4
        · refine ⟨_, rfl, rfl, _, rfl, iteD (fun _ => ?_) (fun _ => cont _ _ ⟨rfl, ks, hAS3, by omega, hx⟩)⟩
          intro r hr'
          obtain ⟨H4, ks', d1, hAS4, hl4, hsub, _⟩ := AS.addZ (x := "zzzzzzzz") hAS3 (by omega) hr'
          exact ⟨_, rfl, p, H4, rfl, d1, cont _ _ ⟨rfl, ks', hAS4, by omega, hsub x hx⟩⟩
      · refine ⟨_, rfl, rfl, _, rfl, iteB (fun _ => ?_) (fun _ => iteF (cont _ _ ⟨rfl, hAS2⟩))⟩
        refine ⟨_, rfl, _, rfl, rfl, _, rfl, iteB (fun _ => ?_) (fun _ => cont _ _ ⟨rfl, hAS2⟩)⟩
        obtain ⟨b, o, n, g1, g2, g3, g4, g5, g6⟩ := AS.at hAS2 (by omega) hx hy
        obtain ⟨H3, g7, hAS3, _⟩ := g6 (if n - 1 > 0 then n - 1 else 0) (by split <;> omega)
        refine ⟨_, rfl, _, rfl, p, _, rfl, g1, b, rfl, g2, _, rfl, o, g3, ?_⟩
        rw [g4]
        exact ⟨_, _, rfl, rfl, _, _, rfl, _, rfl, _, rfl, p, _, rfl, g1, _, rfl, b, H3, rfl, g7, cont _ _ ⟨rfl, hAS3⟩⟩
    · refine ⟨_, rfl, rfl, _, rfl, iteB (fun _ => ?_) (fun _ => iteF (cont _ _ ⟨rfl, hAS1⟩))⟩
      refine ⟨_, rfl, _, rfl, rfl, _, rfl, iteB (fun _ => ?_) (fun _ => cont _ _ ⟨rfl, hAS1⟩)⟩
      obtain ⟨b, o, n, g1, g2, g3, g4, g5, g6⟩ := AS.at hAS1 (by omega) hx hy
      obtain ⟨H3, g7, hAS3, _⟩ := g6 (n + 1) (by omega)
      refine ⟨_, rfl, _, rfl, p, _, rfl, g1, b, rfl, g2, _, rfl, o, g3, ?_⟩
      rw [g4]
      exact ⟨_, _, rfl, rfl, _, rfl, _, rfl, p, _, rfl, g1, _, rfl, b, H3, rfl, g7, cont _ _ ⟨rfl, hAS3⟩⟩
end
end K62

set_option Elab.async false
set_option linter.all false
set_option maxRecDepth 100000
set_option maxHeartbeats 4000000
namespace K62
open PySem L2 PySem.Spec PyProof.Rows
section
variable {P : Program} {w : World} {K : PySem.W.Frag} {mg : Str → Option Value} {base : Heap} {t : Adr}
/-! ### the law -/
def sp_law (K : PySem.W.Frag) : Sp := fun vs H Q _ => ∃ (a : Addr) (ns : List Int), vs = [.ref a] ∧ SqL K H a (ns.map V.int) ∧ ∀ H', Q (.bl true) H'
theorem ok_law (T : Txt K mg t) : FnOk P w K mg base CX0 8 t.law t.fd_law ["_law_script"] (sp_law K) := by
  refine T.f_law.fn.ok sc_law (fun vs H Q E h => ?_) (fun cdv A outer s H vs Q E hr h => ?_)
  · obtain ⟨a, ns, rfl, _⟩ := h; rfl
  · obtain ⟨a, ns, rfl, hA, q⟩ := h
    have hu := hu_of hr
    have hu9 : (A.deeper _).units + 9 < cLine := Nat.lt_of_le_of_lt (Nat.add_le_add_left (by decide : 9 ≤ 64) _) hr.units
    refine ⟨_, (pss_cons (ps_set (i := 1) sc_law.nd rfl (Or.inl rfl) (pe_call (ok_l_names T) (hr.mono (by decide)) rfl T.f_l_names.mg T.f_l_names.kp T.f_l_names.bd .nil pass0 (pa_cons (pe_call (ok_l_cell_at T) (hr.mono (by decide)) rfl T.f_l_cell_at.mg T.f_l_cell_at.kp T.f_l_cell_at.bd .nil pass0 (pa_cons (pv 0) (pa_cons pe_int pa_nil))) (pa_cons (pe_op op_mod (pe_call (ok_l_cell_at T) (hr.mono (by decide)) rfl T.f_l_cell_at.mg T.f_l_cell_at.kp T.f_l_cell_at.bd .nil pass0 (pa_cons (pv 0) (pa_cons pe_int pa_nil))) pe_int) pa_nil))))
      (pss_cons (ps_set (i := 2) sc_law.nd rfl (Or.inl rfl) (pe_call (ok_l_net T) (hr.mono (by decide)) rfl T.f_l_net.mg T.f_l_net.kp T.f_l_net.bd .nil pass0 (pa_cons (pv 0) (pa_cons (pv 1) (pa_cons pe_int pa_nil)))))
      (pss_cons (ps_for PassesOwn.never rfl (pi_list (pe_op op_cat (pe_lst (pa_cons (pe_call (ok_l_cell_at T) (hr.mono (by decide)) rfl T.f_l_cell_at.mg T.f_l_cell_at.kp T.f_l_cell_at.bd .nil pass0 (pa_cons (pv 0) (pa_cons pe_int pa_nil))) pa_nil)) (pe_callTy call_list_of (by rfl) T.b_list boot_ty_list (pa_cons (pe_slice sl_list (pv 0) (po_some pe_int) (po_some pe_int)) pa_nil)))) (pg_name (i := 3) sc_law.nd rfl (Or.inl rfl))
        (pss_cons (ps_set (i := 4) sc_law.nd rfl (Or.inl rfl) (pe_call (ok_l_bent T) (hr.mono (by decide)) rfl T.f_l_bent.mg T.f_l_bent.kp T.f_l_bent.bd .nil pass0 (pa_cons (pe_call (ok_l_arcs T) (hr.mono (by decide)) rfl T.f_l_arcs.mg T.f_l_arcs.kp T.f_l_arcs.bd .nil pass0 (pa_cons (pv 2) (pa_cons (pv 3) pa_nil))) (pa_cons (pv 3) pa_nil))))
      (pss_cons (ps_set (i := 5) sc_law.nd rfl (Or.inl rfl) (pe_lst (pa_cons (pe_call (ok_l_copied T) (hr.mono (by decide)) rfl T.f_l_copied.mg T.f_l_copied.kp T.f_l_copied.bd .nil pass0 (pa_cons (pv 2) pa_nil)) (pa_cons (pe_call (ok_l_copied T) (hr.mono (by decide)) rfl T.f_l_copied.mg T.f_l_copied.kp T.f_l_copied.bd .nil pass0 (pa_cons (pv 4) pa_nil)) pa_nil))))
      (pss_cons (ps_if (pt_not (pt_val (pe_call (ok_l_same T) (hr.mono (by decide)) rfl T.f_l_same.mg T.f_l_same.kp T.f_l_same.bd .nil pass0 (pa_cons (pe_call (ok_is_one_way T) (hr.mono (by decide)) rfl T.f_is_one_way.mg T.f_is_one_way.kp T.f_is_one_way.bd .nil pass0 (pa_cons (pv 2) (pa_cons (pv 4) pa_nil))) (pa_cons (pe_call (ok_l_is_plan T) (hr.mono (by decide)) rfl T.f_l_is_plan.mg T.f_l_is_plan.kp T.f_l_is_plan.bd .nil pass0 (pa_cons (pv 2) (pa_cons (pv 4) pa_nil))) pa_nil)))))
        (pss_one (ps_ret pe_bl))
        pss_nil)
      (pss_cons (ps_for PassesOwn.never rfl (pi_range2 rfl T.b_range (pa_cons pe_int (pa_cons pe_int pa_nil))) (pg_name (i := 6) sc_law.nd rfl (Or.inl rfl))
        (pss_one (ps_if (pt_not (pt_val (pe_call (ok_l_same T) (hr.mono (by decide)) rfl T.f_l_same.mg T.f_l_same.kp T.f_l_same.bd .nil pass0 (pa_cons (pe_call (ok_keeps_each_way T) (hr.mono (by decide)) rfl T.f_keeps_each_way.mg T.f_keeps_each_way.kp T.f_keeps_each_way.bd .nil pass0 (pa_cons (pv 4) (pa_cons (pv 6) pa_nil))) (pa_cons (pe_call (ok_l_keeps T) (hr.mono (by decide)) rfl T.f_l_keeps.mg T.f_l_keeps.kp T.f_l_keeps.bd .nil pass0 (pa_cons (pv 4) (pa_cons (pv 6) pa_nil))) pa_nil)))))
        (pss_one (ps_ret pe_bl))
        pss_nil)))
      (pss_one (ps_if (pt_cmpR (op_neLs hu9) (pe_lst (pa_cons (pv 2) (pa_cons (pv 4) pa_nil))) (pv 5) (nomark _))
        (pss_one (ps_ret pe_bl))
        pss_nil)))))))
      (pss_one (ps_ret pe_bl))))), ?_⟩
    have c1 := Int.emod_nonneg (ns.getD (0 : Int).toNat 0) (show (8 : Int) ≠ 0 by decide)
    have c2 := Int.emod_lt_of_pos (ns.getD (0 : Int).toNat 0) (show (0 : Int) < 8 by decide)
    refine ⟨_, rfl, a, ns, 1, rfl, by decide, hA, _, rfl, a, ns, 0, rfl, by decide, hA, _, _, rfl, rfl, (by show (0 : Int) < 8; decide), _, _, rfl, by omega, by omega, fun b H1 ks S1 hb1 hb2 hkl hnd hnm => ?_⟩
    have hk7 : ks.length ≤ 7 := by omega
    refine ⟨_, rfl, _, rfl, a, b, ns, ks, 4, rfl, S1.seq hA, SqL.of hb2, hnd, by omega, by decide, by decide, fun p Hn hNS => ?_⟩
    obtain ⟨bs, f, S2, hN, hbs, hnew, hg⟩ := hNS
    have hAn := (S1.trans S2).seq hA
    clear S1 S2 hb1 hb2 hnew c1 c2 hkl hA
    have hbl : bs.length ≤ 7 := by
      have := congrArg List.length hbs
      rw [List.length_map] at this; omega
    have hirr : ∀ x ∈ ks, rc f x x = 0 := fun x hx => by unfold rc; rw [hg.irr x hx]; rfl
    refine ⟨_, rfl, a, ns, 4, rfl, by decide, hAn, (by show 1 ≤ sizeLine; decide), fun l1 hl1 => ?_⟩
    obtain ⟨v4, hv4⟩ : ∃ v4, v4 = ns.getD (4 : Int).toNat 0 := ⟨_, rfl⟩
    rw [← hv4]
    have U1 := Same.updN (o := .lst [V.int v4]) hl1
    have hL1 : (upd Hn l1 (.lst [V.int v4])) l1 = some (.lst [V.int v4]) := upd_same
    generalize upd Hn l1 (.lst [V.int v4]) = H2 at U1 hL1 ⊢
    have hcut : ∃ ms : List Int, cutV (ns.map V.int) (some 5) (some 24) = ms.map V.int ∧ ms.length ≤ 24 := by
      unfold cutV
      rw [sIx_of (by decide), sIx_of (by decide), ← List.map_drop, ← List.map_take]
      refine ⟨_, rfl, ?_⟩
      rw [List.length_take]
      refine Nat.le_trans (Nat.min_le_left _ _) ?_
      have : min (24 : Int).toNat (ns.map V.int).length ≤ 24 := Nat.min_le_left _ _
      omega
    obtain ⟨ms, hms, hml⟩ := hcut
    refine ⟨_, rfl, _, rfl, _, rfl, a, _, rfl, U1.seq hAn, fun l2 hl2 => ?_⟩
    rw [hms]
    have U2 := Same.updN (o := .lst (ms.map V.int)) hl2
    refine ⟨l2, _, rfl, .inl (SqL.of upd_same), fun l3 hl3 => ?_⟩
    have U3 := Same.updN (o := .lst (ms.map V.int)) hl3
    have hL3 : (upd (upd H2 l2 (.lst (ms.map V.int))) l3 (.lst (ms.map V.int))) l3 = some (.lst (ms.map V.int)) := upd_same
    have hL13 := U3 _ _ (U2 _ _ hL1)
    have U13 := (U1.trans U2).trans U3
    generalize upd (upd H2 l2 (.lst (ms.map V.int))) l3 (.lst (ms.map V.int)) = H3 at hL3 hL13 U13 ⊢
    clear U1 U2 U3 hL1 hl1 hl2 hl3 hms
    refine ⟨l1, l3, _, _, rfl, rfl, hL13, hL3, (by show 1 + (ms.map V.int).length ≤ sizeLine; rw [List.length_map]; exact Nat.le_of_lt (szl (by omega))), fun l4 hl4 => ?_⟩
    have e4 : ([V.int v4] ++ ms.map V.int) = (v4 :: ms).map V.int := rfl
    rw [e4]
    have U4 := Same.updN (o := .lst ((v4 :: ms).map V.int)) hl4
    have hL4 : (upd H3 l4 (.lst ((v4 :: ms).map V.int))) l4 = some (.lst ((v4 :: ms).map V.int)) := upd_same
    have T4 := U13.trans U4
    generalize upd H3 l4 (.lst ((v4 :: ms).map V.int)) = H4 at hL4 T4 ⊢
    clear U13 U4 hL13 hL3 hl4 e4 hv4
    have hN4 := hN.same T4
    clear hN T4 hAn
    refine ⟨l4, rfl, ⟨_, SqL.of hL4⟩, for_list (xs := (v4 :: ms).map V.int) (fun i σ H5 => ∃ x3 x4 x5 x6, σ = [some (.ref a), some (.ref b), some (.ref p), x3, x4, x5, x6] ∧ Same H4 H5) ⟨_, _, _, _, rfl, Same.refl _⟩ (fun i σ H5 _ pv => ?_) (fun i x σ H5 hx pv => ?_) (fun σ H5 pv => ?_)⟩
    · obtain ⟨_, _, _, _, rfl, S5⟩ := pv
      exact SqL.of (S5 _ _ hL4)
    · obtain ⟨x3, x4, x5, x6, rfl, S5⟩ := pv
      rw [List.getElem?_map] at hx
      cases hc : (v4 :: ms)[i]? with
      | none => rw [hc] at hx; cases hx
      | some c =>
      rw [hc] at hx
      cases hx
      have hN5 := hN4.same S5
      refine ⟨_, rfl, _, rfl, p, bs, f, c, 4, rfl, hN5, by omega, by rw [hbs]; exact hg, fun ap H6 hAS => ?_⟩
      rw [hbs] at hAS
      refine ⟨_, rfl, ap, c, ks, H5, rfl, hAS, hk7, fun H7 ls hAS7 hls => ?_⟩
      obtain ⟨ds, g, S7, hA7, hds, hnw7, hro, hnn⟩ := hAS7
      have hdl : ds.length ≤ 8 := by
        have := congrArg List.length hds
        rw [List.length_map] at this; omega
      have hN7 := hN5.same S7
      refine ⟨_, rfl, p, bs, f, rfl, hN7, by omega, fun kp H8 hNS => ?_⟩
      obtain ⟨kc, S8, hK8, hkk, _⟩ := hNS
      have hN8 := hN7.same S8
      have hA8 := hA7.same S8
      refine ⟨_, rfl, ap, ds, g, rfl, hA8, by omega, fun mp H9 hNS => ?_⟩
      obtain ⟨mc, S9, hM9, hmk, _⟩ := hNS
      refine ⟨(by show 2 ≤ sizeLine; decide), fun l5 hl5 => ?_⟩
      have U5 := Same.updN (o := .lst [V.ref kp, V.ref mp]) hl5
      have hL5 : (upd H9 l5 (.lst [V.ref kp, V.ref mp])) l5 = some (.lst [V.ref kp, V.ref mp]) := upd_same
      generalize upd H9 l5 (.lst [V.ref kp, V.ref mp]) = H10 at U5 hL5 ⊢
      have S79 := (S8.trans S9).trans U5
      have hN10 := hN7.same S79
      have hA10 := hA7.same S79
      have hK10 := hK8.same (S9.trans U5)
      have hM10 := hM9.same U5
      have T10 := (S5.trans S7).trans S79
      clear hN8 hA8 S8 S9 U5 S79 hN7 hA7 hN5 S5 S7 hK8 hM9 hl5
      refine ⟨_, rfl, _, rfl, p, ap, bs, ds, f, g, rfl, hN10.r, hA10.r, by omega, by omega, fun H11 S11 => ?_⟩
      have hN11 := hN10.same S11
      have hA11 := hA10.same S11
      refine ⟨_, rfl, _, rfl, p, ap, bs, ds, f, g, rfl, hN11.r, hA11.r, by omega, by omega, by rw [hbs]; exact hirr, fun H12 S12 => ?_⟩
      refine ⟨_, _, rfl, ?_⟩
      have eB : ∀ x : Bool, (x == x) = true := fun x => by cases x <;> rfl
      rw [eB]
      refine ⟨_, rfl, iteF ?_⟩
      have S1012 := S11.trans S12
      have hN12 := hN10.same S1012
      have hA12 := hA10.same S1012
      have hK12 := hK10.same S1012
      have hM12 := hM10.same S1012
      have hL12 := S1012 _ _ hL5
      have T12 := T10.trans S1012
      clear hN10 hA10 hK10 hM10 hL5 T10 S11 S12 hN11 hA11 S1012
      refine ⟨_, _, rfl, ⟨by decide, by decide, by decide, by decide⟩, ?_⟩
      refine for_range (n := ((4 : Int) - 1).toNat) (fun j σ H13 => ∃ x6, σ = [some (.ref a), some (.ref b), some (.ref p), some (.int c), some (.ref ap), some (.ref l5), x6] ∧ Same H12 H13) ⟨_, rfl, Same.refl _⟩ (fun j σ H13 hj pv => ?_) (fun σ H13 pv => ?_)
      · obtain ⟨x6, rfl, S13⟩ := pv
        have hA13 := hA12.same S13
        refine ⟨_, rfl, _, rfl, ap, ds, g, _, rfl, hA13, by rw [hds]; exact hro, by rw [hds]; exact hnn, by omega, fun H14 b1 S14 hb1 => ?_⟩
        have hA14 := hA13.same S14
        refine ⟨_, rfl, _, rfl, ap, ds, g, _, rfl, hA14.r, by rw [hds]; exact hro, by omega, fun H15 b2 S15 hb2 => ?_⟩
        have e12 : (b1 == b2) = true := by
          have : b1 = true ↔ b2 = true := hb1.trans hb2.symm
          cases b1 <;> cases b2 <;> simp at this ⊢
        refine ⟨_, _, rfl, ?_⟩
        rw [e12]
        exact ⟨_, rfl, iteF ⟨_, rfl, (S13.trans S14).trans S15⟩⟩
      · obtain ⟨x6, rfl, S13⟩ := pv
        have hN13 := hN12.same S13
        have hA13 := hA12.same S13
        have hK13 := hK12.same S13
        have hM13 := hM12.same S13
        have hL13 := S13 _ _ hL12
        refine ⟨_, rfl, _, rfl, (by show 2 ≤ sizeLine; decide), fun l6 hl6 => ?_⟩
        have U6 := Same.updN (o := .lst [V.ref p, V.ref ap]) hl6
        have rN := (hN13.same U6).r.rep (K := K)
        have rA := (hA13.same U6).r.rep (K := K)
        have rK := (hK13.same U6).r.rep (K := K)
        have rM := (hM13.same U6).r.rep (K := K)
        rw [hkk] at rK
        rw [hmk] at rM
        refine ⟨_, rfl, l6, l5, _, _, [_, _], [_, _], rfl, rfl, SqL.of upd_same, SqL.of (U6 _ _ hL13), .cons rN (.cons rA .nil), .cons rK (.cons rM .nil), rfl, (fun i d e h1 h2 => ?_), _, rfl, iteF ?_⟩
        · match i, h1, h2 with
          | 0, h1, h2 =>
            cases h1; cases h2
            exact ⟨netD_deq (List.Perm.refl _) (fun x hx => hg.nd x (by rw [← hbs]; exact hx)) (fun x hx => hg.nd x (by rw [← hbs]; exact hx)) (fun _ _ _ => rfl), Nat.le_trans (netD_dep _ _) (by decide)⟩
          | 1, h1, h2 =>
            cases h1; cases h2
            exact ⟨netD_deq (List.Perm.refl _) (fun x hx => hro.nd x (by rw [← hds]; exact hx)) (fun x hx => hro.nd x (by rw [← hds]; exact hx)) (fun _ _ _ => rfl), Nat.le_trans (netD_dep _ _) (by decide)⟩
          | n + 2, h1, _ => simp at h1
        · exact ⟨_, _, _, _, rfl, (T12.trans S13).trans U6⟩
    · obtain ⟨x3, x4, x5, x6, rfl, S5⟩ := pv
      exact q H5
end
end K62

set_option Elab.async false
set_option linter.all false
open PySem PySem.W PyProof.Rows
set_option maxRecDepth 100000 in
set_option maxHeartbeats 0 in
theorem PySem.Challenge.cw_spareline_k62_what_is_a_plan_and_keeps_holds : PySem.Challenge.rw_spareline_k62_what_is_a_plan_and_keeps.Holds := by
  w_on; o_law; k_head; (case hw => w_witness2)
  k_fill
  refine L2.walk_ofK (l := PySem.Challenge.rw_spareline_k62_what_is_a_plan_and_keeps) (n := 63) (k := 8) (x := "_law_script") (CX := L2.CX0) (sp := K62.sp_law) rfl (by decide) rfl ⟨rfl, by decide, by decide⟩ (fun w h Y => PySem.W.kIn_of Y) ?F ?S ?C
  case F =>
    intro w mg fa h KX G hmg
    have h_least_side : ∃ (f : Addr) (fd : FuncData), L2.Top (L2.KOf KX) mg "least_side" K62.s_least_side ["arcs", "ones", "others"] f fd := by
      dsimp only [L2.KOf]
      refine' ⟨_, _, L2.top_mk (st := K62.s_least_side) KX G ?a ?l ?c ?k (fun _ _ _ _ _ _ us hl => match us, hl with | [_, _, _], _ => rfl)⟩
      (case a => k_is); (case l => k_is); (case c => k_is); (case k => k_is)
    have h_pushed_through : ∃ (f : Addr) (fd : FuncData), L2.Top (L2.KOf KX) mg "pushed_through" K62.s_pushed_through ["arcs", "ones", "others"] f fd := by
      dsimp only [L2.KOf]
      refine' ⟨_, _, L2.top_mk (st := K62.s_pushed_through) KX G ?a ?l ?c ?k (fun _ _ _ _ _ _ us hl => match us, hl with | [_, _, _], _ => rfl)⟩
      (case a => k_is); (case l => k_is); (case c => k_is); (case k => k_is)
    have h_room_on : ∃ (f : Addr) (fd : FuncData), L2.Top (L2.KOf KX) mg "room_on" K62.s_room_on ["arcs"] f fd := by
      dsimp only [L2.KOf]
      refine' ⟨_, _, L2.top_mk (st := K62.s_room_on) KX G ?a ?l ?c ?k (fun _ _ _ _ _ _ us hl => match us, hl with | [_], _ => rfl)⟩
      (case a => k_is); (case l => k_is); (case c => k_is); (case k => k_is)
    have h_least_along : ∃ (f : Addr) (fd : FuncData), L2.Top (L2.KOf KX) mg "least_along" K62.s_least_along ["arcs", "way"] f fd := by
      dsimp only [L2.KOf]
      refine' ⟨_, _, L2.top_mk (st := K62.s_least_along) KX G ?a ?l ?c ?k (fun _ _ _ _ _ _ us hl => match us, hl with | [_, _], _ => rfl)⟩
      (case a => k_is); (case l => k_is); (case c => k_is); (case k => k_is)
    have h_shortest_way : ∃ (f : Addr) (fd : FuncData), L2.Top (L2.KOf KX) mg "shortest_way" K62.s_shortest_way ["arcs", "ones", "others"] f fd := by
      dsimp only [L2.KOf]
      refine' ⟨_, _, L2.top_mk (st := K62.s_shortest_way) KX G ?a ?l ?c ?k (fun _ _ _ _ _ _ us hl => match us, hl with | [_, _, _], _ => rfl)⟩
      (case a => k_is); (case l => k_is); (case c => k_is); (case k => k_is)
    have h_reached_from : ∃ (f : Addr) (fd : FuncData), L2.Top (L2.KOf KX) mg "reached_from" K62.s_reached_from ["arcs", "ones"] f fd := by
      dsimp only [L2.KOf]
      refine' ⟨_, _, L2.top_mk (st := K62.s_reached_from) KX G ?a ?l ?c ?k (fun _ _ _ _ _ _ us hl => match us, hl with | [_, _], _ => rfl)⟩
      (case a => k_is); (case l => k_is); (case c => k_is); (case k => k_is)
    have h_is_one_way : ∃ (f : Addr) (fd : FuncData), L2.Top (L2.KOf KX) mg "is_one_way" K62.s_is_one_way ["net", "arcs"] f fd := by
      dsimp only [L2.KOf]
      refine' ⟨_, _, L2.top_mk (st := K62.s_is_one_way) KX G ?a ?l ?c ?k (fun _ _ _ _ _ _ us hl => match us, hl with | [_, _], _ => rfl)⟩
      (case a => k_is); (case l => k_is); (case c => k_is); (case k => k_is)
    have h_keeps_each_way : ∃ (f : Addr) (fd : FuncData), L2.Top (L2.KOf KX) mg "keeps_each_way" K62.s_keeps_each_way ["arcs", "k"] f fd := by
      dsimp only [L2.KOf]
      refine' ⟨_, _, L2.top_mk (st := K62.s_keeps_each_way) KX G ?a ?l ?c ?k (fun _ _ _ _ _ _ us hl => match us, hl with | [_, _], _ => rfl)⟩
      (case a => k_is); (case l => k_is); (case c => k_is); (case k => k_is)
    have h_number_on : ∃ (f : Addr) (fd : FuncData), L2.Top (L2.KOf KX) mg "number_on" K62.s_number_on ["arcs", "here", "there"] f fd := by
      dsimp only [L2.KOf]
      refine' ⟨_, _, L2.top_mk (st := K62.s_number_on) KX G ?a ?l ?c ?k (fun _ _ _ _ _ _ us hl => match us, hl with | [_, _, _], _ => rfl)⟩
      (case a => k_is); (case l => k_is); (case c => k_is); (case k => k_is)
    have h_l_cell_at : ∃ (f : Addr) (fd : FuncData), L2.Top (L2.KOf KX) mg "_law_cell_at" K62.s_l_cell_at ["_law_script", "_law_k"] f fd := by
      dsimp only [L2.KOf]
      refine' ⟨_, _, L2.top_mk (st := K62.s_l_cell_at) KX G ?a ?l ?c ?k (fun _ _ _ _ _ _ us hl => match us, hl with | [_, _], _ => rfl)⟩
      (case a => k_is); (case l => k_is); (case c => k_is); (case k => k_is)
    have h_l_mix : ∃ (f : Addr) (fd : FuncData), L2.Top (L2.KOf KX) mg "_law_mix" K62.s_l_mix ["_law_cell", "_law_k"] f fd := by
      dsimp only [L2.KOf]
      refine' ⟨_, _, L2.top_mk (st := K62.s_l_mix) KX G ?a ?l ?c ?k (fun _ _ _ _ _ _ us hl => match us, hl with | [_, _], _ => rfl)⟩
      (case a => k_is); (case l => k_is); (case c => k_is); (case k => k_is)
    have h_l_names : ∃ (f : Addr) (fd : FuncData), L2.Top (L2.KOf KX) mg "_law_names" K62.s_l_names ["_law_cell", "_law_many"] f fd := by
      dsimp only [L2.KOf]
      refine' ⟨_, _, L2.top_mk (st := K62.s_l_names) KX G ?a ?l ?c ?k (fun _ _ _ _ _ _ us hl => match us, hl with | [_, _], _ => rfl)⟩
      (case a => k_is); (case l => k_is); (case c => k_is); (case k => k_is)
    have h_l_net : ∃ (f : Addr) (fd : FuncData), L2.Top (L2.KOf KX) mg "_law_net" K62.s_l_net ["_law_script", "_law_names_here", "_law_bound"] f fd := by
      dsimp only [L2.KOf]
      refine' ⟨_, _, L2.top_mk (st := K62.s_l_net) KX G ?a ?l ?c ?k (fun _ _ _ _ _ _ us hl => match us, hl with | [_, _, _], _ => rfl)⟩
      (case a => k_is); (case l => k_is); (case c => k_is); (case k => k_is)
    have h_l_sides : ∃ (f : Addr) (fd : FuncData), L2.Top (L2.KOf KX) mg "_law_sides" K62.s_l_sides ["_law_places"] f fd := by
      dsimp only [L2.KOf]
      refine' ⟨_, _, L2.top_mk (st := K62.s_l_sides) KX G ?a ?l ?c ?k (fun _ _ _ _ _ _ us hl => match us, hl with | [_], _ => rfl)⟩
      (case a => k_is); (case l => k_is); (case c => k_is); (case k => k_is)
    have h_l_out : ∃ (f : Addr) (fd : FuncData), L2.Top (L2.KOf KX) mg "_law_out" K62.s_l_out ["_law_arcs_here", "_law_side"] f fd := by
      dsimp only [L2.KOf]
      refine' ⟨_, _, L2.top_mk (st := K62.s_l_out) KX G ?a ?l ?c ?k (fun _ _ _ _ _ _ us hl => match us, hl with | [_, _], _ => rfl)⟩
      (case a => k_is); (case l => k_is); (case c => k_is); (case k => k_is)
    have h_l_copied : ∃ (f : Addr) (fd : FuncData), L2.Top (L2.KOf KX) mg "_law_copied" K62.s_l_copied ["_law_net_here"] f fd := by
      dsimp only [L2.KOf]
      refine' ⟨_, _, L2.top_mk (st := K62.s_l_copied) KX G ?a ?l ?c ?k (fun _ _ _ _ _ _ us hl => match us, hl with | [_], _ => rfl)⟩
      (case a => k_is); (case l => k_is); (case c => k_is); (case k => k_is)
    have h_l_arcs : ∃ (f : Addr) (fd : FuncData), L2.Top (L2.KOf KX) mg "_law_arcs" K62.s_l_arcs ["_law_net_here", "_law_cell"] f fd := by
      dsimp only [L2.KOf]
      refine' ⟨_, _, L2.top_mk (st := K62.s_l_arcs) KX G ?a ?l ?c ?k (fun _ _ _ _ _ _ us hl => match us, hl with | [_, _], _ => rfl)⟩
      (case a => k_is); (case l => k_is); (case c => k_is); (case k => k_is)
    have h_l_bent : ∃ (f : Addr) (fd : FuncData), L2.Top (L2.KOf KX) mg "_law_bent" K62.s_l_bent ["_law_arcs_here", "_law_cell"] f fd := by
      dsimp only [L2.KOf]
      refine' ⟨_, _, L2.top_mk (st := K62.s_l_bent) KX G ?a ?l ?c ?k (fun _ _ _ _ _ _ us hl => match us, hl with | [_, _], _ => rfl)⟩
      (case a => k_is); (case l => k_is); (case c => k_is); (case k => k_is)
    have h_l_is_plan : ∃ (f : Addr) (fd : FuncData), L2.Top (L2.KOf KX) mg "_law_is_plan" K62.s_l_is_plan ["_law_net_here", "_law_arcs_here"] f fd := by
      dsimp only [L2.KOf]
      refine' ⟨_, _, L2.top_mk (st := K62.s_l_is_plan) KX G ?a ?l ?c ?k (fun _ _ _ _ _ _ us hl => match us, hl with | [_, _], _ => rfl)⟩
      (case a => k_is); (case l => k_is); (case c => k_is); (case k => k_is)
    have h_l_keeps : ∃ (f : Addr) (fd : FuncData), L2.Top (L2.KOf KX) mg "_law_keeps" K62.s_l_keeps ["_law_arcs_here", "_law_k"] f fd := by
      dsimp only [L2.KOf]
      refine' ⟨_, _, L2.top_mk (st := K62.s_l_keeps) KX G ?a ?l ?c ?k (fun _ _ _ _ _ _ us hl => match us, hl with | [_, _], _ => rfl)⟩
      (case a => k_is); (case l => k_is); (case c => k_is); (case k => k_is)
    have h_l_same : ∃ (f : Addr) (fd : FuncData), L2.Top (L2.KOf KX) mg "_law_same" K62.s_l_same ["_law_found", "_law_due"] f fd := by
      dsimp only [L2.KOf]
      refine' ⟨_, _, L2.top_mk (st := K62.s_l_same) KX G ?a ?l ?c ?k (fun _ _ _ _ _ _ us hl => match us, hl with | [_, _], _ => rfl)⟩
      (case a => k_is); (case l => k_is); (case c => k_is); (case k => k_is)
    have h_law : ∃ (f : Addr) (fd : FuncData), L2.Top (L2.KOf KX) mg "law" K62.s_law ["_law_script"] f fd ∧ ∀ (s : Shared) (u : Value), BindsTo s fd ⟨[u], []⟩ [("_law_script", u)] := by
      dsimp only [L2.KOf]
      refine' ⟨_, _, L2.top_mk (st := K62.s_law) KX G ?a ?l ?c ?k (fun _ _ _ _ _ _ us hl => match us, hl with | [_], _ => rfl), fun s u => .of_eq rfl⟩
      (case a => k_is); (case l => k_is); (case c => k_is); (case k => k_is)
    have b_bool : PySem.W.nsIn (L2.KOf KX) mainGlobals "bool" = some none := by
      dsimp only [L2.KOf]
      k_is
    have b_dict : PySem.W.nsIn (L2.KOf KX) mainGlobals "dict" = some none := by
      dsimp only [L2.KOf]
      k_is
    have b_int : PySem.W.nsIn (L2.KOf KX) mainGlobals "int" = some none := by
      dsimp only [L2.KOf]
      k_is
    have b_isinstance : PySem.W.nsIn (L2.KOf KX) mainGlobals "isinstance" = some none := by
      dsimp only [L2.KOf]
      k_is
    have b_len : PySem.W.nsIn (L2.KOf KX) mainGlobals "len" = some none := by
      dsimp only [L2.KOf]
      k_is
    have b_list : PySem.W.nsIn (L2.KOf KX) mainGlobals "list" = some none := by
      dsimp only [L2.KOf]
      k_is
    have b_max : PySem.W.nsIn (L2.KOf KX) mainGlobals "max" = some none := by
      dsimp only [L2.KOf]
      k_is
    have b_min : PySem.W.nsIn (L2.KOf KX) mainGlobals "min" = some none := by
      dsimp only [L2.KOf]
      k_is
    have b_range : PySem.W.nsIn (L2.KOf KX) mainGlobals "range" = some none := by
      dsimp only [L2.KOf]
      k_is
    have b_sorted : PySem.W.nsIn (L2.KOf KX) mainGlobals "sorted" = some none := by
      dsimp only [L2.KOf]
      k_is
    have b_zip : PySem.W.nsIn (L2.KOf KX) mainGlobals "zip" = some none := by
      dsimp only [L2.KOf]
      k_is
    obtain ⟨a_least_side, d_least_side, h_least_side⟩ := h_least_side
    obtain ⟨a_pushed_through, d_pushed_through, h_pushed_through⟩ := h_pushed_through
    obtain ⟨a_room_on, d_room_on, h_room_on⟩ := h_room_on
    obtain ⟨a_least_along, d_least_along, h_least_along⟩ := h_least_along
    obtain ⟨a_shortest_way, d_shortest_way, h_shortest_way⟩ := h_shortest_way
    obtain ⟨a_reached_from, d_reached_from, h_reached_from⟩ := h_reached_from
    obtain ⟨a_is_one_way, d_is_one_way, h_is_one_way⟩ := h_is_one_way
    obtain ⟨a_keeps_each_way, d_keeps_each_way, h_keeps_each_way⟩ := h_keeps_each_way
    obtain ⟨a_number_on, d_number_on, h_number_on⟩ := h_number_on
    obtain ⟨a_l_cell_at, d_l_cell_at, h_l_cell_at⟩ := h_l_cell_at
    obtain ⟨a_l_mix, d_l_mix, h_l_mix⟩ := h_l_mix
    obtain ⟨a_l_names, d_l_names, h_l_names⟩ := h_l_names
    obtain ⟨a_l_net, d_l_net, h_l_net⟩ := h_l_net
    obtain ⟨a_l_sides, d_l_sides, h_l_sides⟩ := h_l_sides
    obtain ⟨a_l_out, d_l_out, h_l_out⟩ := h_l_out
    obtain ⟨a_l_copied, d_l_copied, h_l_copied⟩ := h_l_copied
    obtain ⟨a_l_arcs, d_l_arcs, h_l_arcs⟩ := h_l_arcs
    obtain ⟨a_l_bent, d_l_bent, h_l_bent⟩ := h_l_bent
    obtain ⟨a_l_is_plan, d_l_is_plan, h_l_is_plan⟩ := h_l_is_plan
    obtain ⟨a_l_keeps, d_l_keeps, h_l_keeps⟩ := h_l_keeps
    obtain ⟨a_l_same, d_l_same, h_l_same⟩ := h_l_same
    obtain ⟨a_law, d_law, h_law, hlaw⟩ := h_law
    have T : K62.Txt (L2.KOf KX) mg ⟨a_least_side, d_least_side, a_pushed_through, d_pushed_through, a_room_on, d_room_on, a_least_along, d_least_along, a_shortest_way, d_shortest_way, a_reached_from, d_reached_from, a_is_one_way, d_is_one_way, a_keeps_each_way, d_keeps_each_way, a_number_on, d_number_on, a_l_cell_at, d_l_cell_at, a_l_mix, d_l_mix, a_l_names, d_l_names, a_l_net, d_l_net, a_l_sides, d_l_sides, a_l_out, d_l_out, a_l_copied, d_l_copied, a_l_arcs, d_l_arcs, a_l_bent, d_l_bent, a_l_is_plan, d_l_is_plan, a_l_keeps, d_l_keeps, a_l_same, d_l_same, a_law, d_law⟩ := ⟨h_least_side, h_pushed_through, h_room_on, h_least_along, h_shortest_way, h_reached_from, h_is_one_way, h_keeps_each_way, h_number_on, h_l_cell_at, h_l_mix, h_l_names, h_l_net, h_l_sides, h_l_out, h_l_copied, h_l_arcs, h_l_bent, h_l_is_plan, h_l_keeps, h_l_same, h_law, PySem.W.mg_none_of KX G b_bool, PySem.W.mg_none_of KX G b_dict, PySem.W.mg_none_of KX G b_int, PySem.W.mg_none_of KX G b_isinstance, PySem.W.mg_none_of KX G b_len, PySem.W.mg_none_of KX G b_list, PySem.W.mg_none_of KX G b_max, PySem.W.mg_none_of KX G b_min, PySem.W.mg_none_of KX G b_range, PySem.W.mg_none_of KX G b_sorted, PySem.W.mg_none_of KX G b_zip⟩
    have e0 := hmg.symm.trans T.f_law.mg
    cases e0
    exact ⟨_, hlaw, fun base kb nb => K62.ok_law T⟩
  case S =>
    intro K H a ns hl hO hS
    exact ⟨a, ns, rfl, hS, fun _ => rfl⟩
  case C => exact fun H s e s' h => h

