import PyProof.Rows.All
import Wide.All
import OpenK.AllK
import Wide.FinOn
import Lean
import PyProof.EqAt
import PyProof.EqKinds
import PyProof.TupleCall
import PyProof.InstStoreFacts
import PyProof.ExcArgs
import KE.KIsAll
import KE.RegKIsAll
import KE.IntTextLaws
import OpenK.KOwn
import PyProof.NeKinds
import PyProof.Rows.EqBoolInt
import PyProof.FString5
import PyProof.EnumStmt
import PyProof.ZipIter
import PyProof.SeqI3
import PyProof.AutoListH
import KE.KDictLaws
import PyProof.DictItems
import PyProof.StrOps2
import KE.KRevIter
import KE.KPairComp
import PyProof.SetRoads
import PyProof.Rows.SetFrom
import PyProof.WalkInts
import PyProof.Rows.SumAny
import PySem.Challenge.RW_spareline_k15_whole_between
set_option Elab.async false
set_option linter.all false
set_option maxRecDepth 100000
namespace L2
open PySem PySem.Spec PyProof.Rows
abbrev Key:=Sum Int Str
def keyIs:Key→Value→Bool
  | .inl k,v=>Value.isInt k v
  | .inr x,v=>Value.isStrOf x v
def keyH (w:World):Key→Int
  | .inl k=>hashInt k
  | .inr x=>hashStr w x
theorem keyIs_shape:∀ {k:Key} {v:Value},keyIs k v = true→(∃ i t,k = Sum.inl i∧v = Value.int i t)∨(∃ x t,k = Sum.inr x∧v = Value.str x t)
  | .inl i,v,h=>by
    obtain ⟨t,e⟩:=Value.isInt_shape (k:=i) (v:=v) h
    exact .inl ⟨i,t,rfl,e⟩
  | .inr x,v,h=>by
    obtain ⟨t,e⟩:=Value.isStrOf_shape (x:=x) (v:=v) h
    exact .inr ⟨x,t,rfl,e⟩
theorem keyIs_int (i:Int) (t:Tok):keyIs (.inl i) (.int i t) = true:=by simp [keyIs,Value.isInt]
theorem keyIs_str (x:Str) (t:Tok):keyIs (.inr x) (.str x t) = true:=by simp [keyIs,Value.isStrOf]
theorem key_ll (a b:Int):decide ((Sum.inl a:Key) = Sum.inl b) = (a == b):=by
  by_cases e:a = b
  · subst e;simp
  · have h:¬ (Sum.inl a:Key) = Sum.inl b:=fun q=>e (Sum.inl.inj q)
    rw [decide_eq_false h]
    exact (beq_eq_false_iff_ne.mpr e).symm
theorem key_rr (a b:Str):decide ((Sum.inr a:Key) = Sum.inr b) = decide (a = b):=by
  by_cases e:a = b
  · subst e;simp
  · have h:¬ (Sum.inr a:Key) = Sum.inr b:=fun q=>e (Sum.inr.inj q)
    rw [decide_eq_false h,decide_eq_false e]
theorem key_lr (a:Int) (b:Str):decide ((Sum.inl a:Key) = Sum.inr b) = false:=decide_eq_false (fun q=>nomatch q)
theorem key_rl (a:Str) (b:Int):decide ((Sum.inr a:Key) = Sum.inl b) = false:=decide_eq_false (fun q=>nomatch q)
def mixKind (prog:Program) (w:World):PySem.KeyKind prog w Key where
  is:=keyIs
  hash:=keyH w
  inj:=fun v a b ha hb=>by
    rcases keyIs_shape ha with ⟨i,t,rfl,rfl⟩ | ⟨x,t,rfl,rfl⟩
    · rcases keyIs_shape hb with ⟨j,u,rfl,e⟩ | ⟨y,u,rfl,e⟩
      · injection e with e1 _;rw [e1]
      · exact nomatch e
    · rcases keyIs_shape hb with ⟨j,u,rfl,e⟩ | ⟨y,u,rfl,e⟩
      · exact nomatch e
      · injection e with e1 _;rw [e1]
  byValue:=fun k v h=>by
    rcases keyIs_shape h with ⟨i,t,rfl,rfl⟩ | ⟨x,t,rfl,rfl⟩ <;> rfl
  pyHash:=fun hv h=>by
    rcases keyIs_shape hv with ⟨i,t,rfl,rfl⟩ | ⟨x,t,rfl,rfl⟩
    · exact wpAny_pyHash_int h
    · exact wpAny_pyHash_str h
  eqBool:=fun hu hv h=>by
    rcases keyIs_shape hu with ⟨i,t,rfl,rfl⟩ | ⟨x,t,rfl,rfl⟩
    · rcases keyIs_shape hv with ⟨j,u,rfl,rfl⟩ | ⟨y,u,rfl,rfl⟩
      · rw [key_ll] at h;exact wpAny_eqBool_int h
      · rw [key_lr] at h;exact SeqAt.EqAt.int_str i t y u _ _ _ _ h
    · rcases keyIs_shape hv with ⟨j,u,rfl,rfl⟩ | ⟨y,u,rfl,rfl⟩
      · rw [key_rl] at h;exact SeqAt.EqAt.str_int x t j u _ _ _ _ h
      · rw [key_rr] at h;exact wpAny_eqBool_str h
  «strs»:=fun k x t v h=>by
    rcases keyIs_shape h with ⟨i,u,rfl,e⟩ | ⟨y,u,rfl,e⟩
    · exact nomatch e
    · injection e with e1 _
      subst e1
      cases v <;> rfl
theorem mixKind_int (prog:Program) (w:World) (i:Int) (t:Tok):(mixKind prog w).is (.inl i) (.int i t) = true:=keyIs_int i t
theorem mixKind_str (prog:Program) (w:World) (x:Str) (t:Tok):(mixKind prog w).is (.inr x) (.str x t) = true:=keyIs_str x t
end L2
namespace L2
open PySem PySem.Spec PyProof.Rows
inductive V where
  | non | bl (b:Bool) | int (i:Int) | str (x:Str) | byt (b:Array UInt8) | flt (b:UInt64) | ref (a:Addr) | ty (n:String)
  deriving DecidableEq
def RelV:V→Value→Prop
  | .non,u=>u = Value.none
  | .bl b,u=>u = Value.bool b
  | .int i,u=>∃ t,u = Value.int i t
  | .str x,u=>∃ t,u = Value.str x t
  | .byt b,u=>∃ t,u = Value.bytes b t
  | .flt b,u=>∃ t,u = Value.float b t
  | .ref a,u=>u = Value.ref a
  | .ty n,u=>u = Value.type n
abbrev Vals:List V→List Value→Prop:=Paired RelV
theorem Vals.length {xs:List V} {us:List Value} (r:Vals xs us):xs.length = us.length:=Paired.length r
theorem Vals.get:∀ {xs:List V} {us:List Value} {i:Nat} {x:V},Vals xs us→xs[i]? = some x→∃ u,us[i]? = some u∧RelV x u
  | _,_,_,_,.nil,e=>by simp at e
  | _,_,0,_,.cons r _,e=>by simp at e;subst e;exact ⟨_,rfl,r⟩
  | _,_,i + 1,x,.cons _ t,e=>by
    obtain ⟨u,h1,h2⟩:=Vals.get (i:=i) (x:=x) t (by simpa using e)
    exact ⟨u,by simpa using h1,h2⟩
theorem Vals.append:∀ {xs ys:List V} {us ws:List Value},Vals xs us→Vals ys ws→Vals (xs ++ ys) (us ++ ws)
  | _,_,_,_,.nil,s=>s
  | _,_,_,_,.cons r t,s=>.cons r (Vals.append t s)
theorem Vals.take:∀ {xs:List V} {us:List Value} (n:Nat),Vals xs us→Vals (xs.take n) (us.take n)
  | _,_,0,_=>.nil
  | _,_,_ + 1,.nil=>.nil
  | _,_,n + 1,.cons r t=>.cons r (Vals.take n t)
theorem Vals.drop:∀ {xs:List V} {us:List Value} (n:Nat),Vals xs us→Vals (xs.drop n) (us.drop n)
  | _,_,0,r=>r
  | _,_,_ + 1,.nil=>.nil
  | _,_,n + 1,.cons _ t=>Vals.drop n t
def RelO:Option V→Option Value→Prop
  | some v,some u=>RelV v u
  | none,none=>True
  | _,_=>False
def KV {κ:Type}:List (κ×V)→List (κ×Value)→Prop:=Paired fun (p:κ×V) (q:κ×Value)=>p.1 = q.1∧RelV p.2 q.2
def kV:Key→V
  | .inl i=>.int i
  | .inr x=>.str x
inductive HO where
  | lst (xs:List V)
  | tup (xs:List V)
  | dK (kvs:List (Key×V)) | dT (kvs:List (List Key×V))
  | set (S:Int→Bool) (n:Nat)
  | ins (C dx:Addr) (fs:List (Str×V))
  | own (x:Addr)
  | xd (fs:List (Str×V))
  | met (f x:Addr)
  | rng (lo hi:Int)
  | frz (o:Obj) (u:HO)
  | tbl (ps:Array Value)
  | ext (φ:Heap→Prop)
abbrev Hp:=Addr→Option HO
def upd (H:Hp) (a:Addr) (o:HO):Hp:=fun b=>if b = a then some o else H b
theorem upd_same {H:Hp} {a:Addr} {o:HO}:upd H a o a = some o:=by unfold upd;rw [if_pos rfl]
theorem upd_ne {H:Hp} {a b:Addr} {o:HO} (h:b≠a):upd H a o b = H b:=by unfold upd;rw [if_neg h]
theorem ne_of {H:Hp} {a b:Addr} {o u:HO} (h:H a = some o) (h':H b = some u) (d:o≠u):a≠b:=by
  intro e;subst e;rw [h] at h';exact d (Option.some.inj h')
theorem ne_of_none {H:Hp} {a b:Addr} {o:HO} (h:H a = some o) (h':H b = none):a≠b:=by
  intro e;subst e;rw [h] at h';cases h'
section
variable (P:Program) (w:World)
def ObjOk (H:Hp) (h:Heap) (a:Addr):HO→Prop
  | .lst xs=>xs.length≤sizeLine∧∃ (its:List Value) (n:Nat),Vals xs its∧h.get? a = some { cls:=.type "list",data:=.seq its.toArray n }
  | .tup xs=>xs.length≤sizeLine∧∃ its:List Value,Vals xs its∧IsTup h a its.toArray
  | .dK kvs=>kvs.length≤sizeLine∧(a == sysModules) = false∧∃ vs,KV kvs vs∧h.DictOf (mixKind P w) a vs
  | .dT kvs=>kvs.length≤sizeLine∧(a == sysModules) = false∧∃ xs:List (List Key×Addr×Value),
      Paired (fun (p:List Key×V) (q:List Key×Addr×Value)=>p.1 = q.1∧H q.2.1 = some (.tup (p.1.map kV))∧RelV p.2 q.2.2) kvs xs ∧
      ∃ o es ep,h.get? a = some o∧o.ExactDict∧o.data = .dict es ep∧es.toList = xs.map (entryOfKey (tupleKind (mixKind P w)))∧(xs.map (·.1)).Nodup
  | .set S n=>h.SetOf (intKind P w) a S n
  | .ins C dx fs=>H dx = some (.own a)∧fs.length≤1000∧dx≠a∧h.get? a = some (PySem.W.instObj C dx) ∧
      ∃ mA,h.Ns1 dx mA∧(∀ f,RelO (fs.lookup f) (mA f))∧PySem.Within mA (fs.map (·.1))
  | .own _=>∃ o,h.get? a = some o
  | .xd fs=>∃ mA,h.Ns1 a mA∧∀ f,RelO (fs.lookup f) (mA f)
  | .rng lo hi=>∃ t u v,h.get? a = some { cls:=.type "range",data:=.fields #[.int lo t,.int hi u,.int 1 v] }
  | .frz o u=>h.get? a = some o∧ObjOk H h a u
  | .tbl ps=>h.get? a = some { cls:=.none,data:=.fields ps }
  | .met f x=>h.get? a = some (PySem.W.methodObj (.ref f) (.ref x))
  | .ext φ=>φ h∧(∃ o,h.get? a = some o)∧∀ h1 h2:Heap,φ h1→(∀ o,h1.get? a = some o→h2.get? a = some o)→φ h2
def HOk (H:Hp) (h:Heap):Prop:=∀ a o,H a = some o→ObjOk P w H h a o
end
section
variable {P:Program} {w:World} {H H':Hp} {h h':Heap} {a:Addr} {o:HO}
theorem ObjOk.lt (x:ObjOk P w H h a o):a < h.objs.size:=by
  cases o with
  | lst xs=>obtain ⟨_,_,_,_,e⟩:=x;exact Heap.lt_size e
  | tup xs=>obtain ⟨_,_,_,p⟩:=x;exact p.lt
  | dK kvs=>obtain ⟨_,_,_,_,o,_,_,e,_⟩:=x;exact Heap.lt_size e
  | dT kvs=>obtain ⟨_,_,_,_,o,_,_,e,_⟩:=x;exact Heap.lt_size e
  | set S n=>obtain ⟨o,_,_,_,e,_⟩:=x;exact Heap.lt_size e
  | ins C dx fs=>obtain ⟨_,_,_,e,_⟩:=x;exact Heap.lt_size e
  | own y=>obtain ⟨_,e⟩:=x;exact Heap.lt_size e
  | xd fs=>obtain ⟨_,⟨_,_,_,e,_⟩,_⟩:=x;exact Heap.lt_size e
  | rng lo hi=>obtain ⟨_,_,_,e⟩:=x;exact Heap.lt_size e
  | frz ob u=>obtain ⟨e,_⟩:=x;exact Heap.lt_size e
  | tbl ps=>exact Heap.lt_size (show h.get? a = some _ from x)
  | met f y=>exact Heap.lt_size (show h.get? a = some _ from x)
  | ext φ=>obtain ⟨_,⟨_,e⟩,_⟩:=x;exact Heap.lt_size e
theorem Paired.mapP {α β:Type} {F G:α→β→Prop}:∀ {l₁:List α} {l₂:List β},Paired F l₁ l₂→(∀ a b,F a b→G a b)→Paired G l₁ l₂
  | _,_,.nil,_=>.nil
  | _,_,.cons r t,f=>.cons (f _ _ r) (Paired.mapP t f)
theorem ObjOk.stay (x:ObjOk P w H h a o) (k:∀ b u,(b = a∨H b = some (.own a))→h.get? b = some u→h'.get? b = some u)
    (ho:∀ b,H b = some (.own a)→H' b = some (.own a)) (ht:∀ b xs,H b = some (.tup xs)→H' b = some (.tup xs)):ObjOk P w H' h' a o:=by
  induction o with
  | lst xs=>obtain ⟨z,its,n,r,e⟩:=x;exact ⟨z,its,n,r,k _ _ (.inl rfl) e⟩
  | tup xs=>obtain ⟨z,its,r,ob,e,c⟩:=x;exact ⟨z,its,r,ob,k _ _ (.inl rfl) e,c⟩
  | dK kvs=>obtain ⟨z,y,vs,r,ob,es,ep,e,c⟩:=x;exact ⟨z,y,vs,r,ob,es,ep,k _ _ (.inl rfl) e,c⟩
  | dT kvs =>
    obtain ⟨z,y,xs,r,ob,es,ep,e,c⟩:=x
    exact ⟨z,y,xs,Paired.mapP r fun p q z=>⟨z.1,ht _ _ z.2.1,z.2.2⟩,ob,es,ep,k _ _ (.inl rfl) e,c⟩
  | set S n=>obtain ⟨ob,es,ep,t,e,c⟩:=x;exact ⟨ob,es,ep,t,k _ _ (.inl rfl) e,c⟩
  | ins C dx fs =>
    obtain ⟨d,z,ne,e,mA,⟨od,es,ep,e2,c⟩,r⟩:=x
    exact ⟨ho _ d,z,ne,k _ _ (.inl rfl) e,mA,⟨od,es,ep,k _ _ (.inr d) e2,c⟩,r⟩
  | own y=>obtain ⟨ob,e⟩:=x;exact ⟨ob,k _ _ (.inl rfl) e⟩
  | xd fs=>obtain ⟨mA,⟨od,es,ep,e,c⟩,r⟩:=x;exact ⟨mA,⟨od,es,ep,k _ _ (.inl rfl) e,c⟩,r⟩
  | rng lo hi=>obtain ⟨t,u,v,e⟩:=x;exact ⟨t,u,v,k _ _ (.inl rfl) e⟩
  | frz ob u ih=>obtain ⟨e,q⟩:=x;exact ⟨k _ _ (.inl rfl) e,ih q⟩
  | tbl ps =>
    have e:h.get? a = some { cls:=.none,data:=.fields ps }:=x
    show h'.get? a = some { cls:=.none,data:=.fields ps }
    exact k a _ (.inl rfl) e
  | met f y =>
    have e:h.get? a = some (PySem.W.methodObj (.ref f) (.ref y)):=x
    show h'.get? a = some (PySem.W.methodObj (.ref f) (.ref y))
    exact k a _ (.inl rfl) e
  | ext φ=>obtain ⟨p,⟨o,e⟩,st⟩:=x;exact ⟨st _ _ p fun o q=>k _ _ (.inl rfl) q,⟨o,k _ _ (.inl rfl) e⟩,st⟩
theorem HOk.lt (x:HOk P w H h) (e:H a = some o):a < h.objs.size:=(x a o e).lt
theorem HOk.fresh (x:HOk P w H h) (e:h.objs.size≤a):H a = none:=by
  cases q:H a with
  | none=>rfl
  | some u=>exact absurd (Nat.lt_of_lt_of_le (x.lt q) e) (Nat.lt_irrefl _)
theorem HOk.kept (x:HOk P w H h) (k:∀ b u,h.get? b = some u→h'.get? b = some u):HOk P w H h':=fun a o e =>
  (x a o e).stay (fun b u _ q=>k b u q) (fun _ q=>q) fun _ _ q=>q
theorem HOk.laid (x:HOk P w H h) (k:∀ b u,h.get? b = some u→h'.get? b = some u) (hp:h.objs.size≤a) (new:ObjOk P w (upd H a o) h' a o):HOk P w (upd H a o) h':=fun b u e=>by
  have hn:=x.fresh hp
  by_cases hb:b = a
  · subst hb;rw [upd_same] at e;cases e;exact new
  · rw [upd_ne hb] at e
    exact (x b u e).stay (fun c v _ q=>k c v q) (fun c q=>by rw [upd_ne (ne_of_none q hn)];exact q) fun c xs q=>by rw [upd_ne (ne_of_none q hn)];exact q
end
def Rd (H:Hp) (a:Addr) (u:HO):Prop:=H a = some u∨∃ o,H a = some (.frz o u)
theorem Rd.ok {P:Program} {w:World} {H:Hp} {h:Heap} {a:Addr} {u:HO} (r:Rd H a u) (x:HOk P w H h):ObjOk P w H h a u:=by
  rcases r with r | ⟨o,r⟩
  · exact x a u r
  · obtain ⟨_,q⟩:=x a _ r
    exact q
def Mut:Option HO→Prop
  | some (.lst _)=>True
  | some (.dK _)=>True
  | some (.dT _)=>True
  | some (.set _ _)=>True
  | some (.ins _ _ _)=>True
  | some (.ext _)=>True
  | _=>False
section
variable {P:Program} {w:World} {H:Hp} {h h':Heap} {x e:Addr} {o':HO}
theorem HOk.write (ok:HOk P w H h) (mu:Mut (H x)) (he:e = x∨H e = some (.own x)) (k:∀ b u,b≠e→h.get? b = some u→h'.get? b = some u) (heo:∃ u,h'.get? e = some u)
    (new:ObjOk P w (upd H x o') h' x o'):HOk P w (upd H x o') h':=fun b u q=>by
  have nown:∀ c y,H c = some (.own y)→c≠x:=fun c y r z=>by subst z;rw [r] at mu;exact mu
  have ntup:∀ c xs,H c = some (.tup xs)→c≠x:=fun c xs r z=>by subst z;rw [r] at mu;exact mu
  by_cases hb:b = x
  · subst hb;rw [upd_same] at q;cases q;exact new
  · rw [upd_ne hb] at q
    by_cases hbe:b = e
    · have q':H b = some (.own x):=by
        rcases he with z | z
        · exact absurd (hbe.trans z) hb
        · rw [hbe];exact z
      rw [q] at q';cases q'
      obtain ⟨v,hv⟩:=heo
      exact ⟨v,by rw [hbe];exact hv⟩
    · refine (ok b u q).stay (fun c v hc r=>k c v ?_ r) (fun c r=>by rw [upd_ne (nown c b r)];exact r) fun c xs r=>by rw [upd_ne (ntup c xs r)];exact r
      rcases hc with rfl | hc
      · exact hbe
      · rintro rfl
        rcases he with z | z
        · exact nown c b hc z
        · rw [hc] at z;cases z;exact hb rfl
end
structure Un (fs ex:List Addr) (H H':Hp) (h h':Heap):Prop where
  keep:∀ b o,h.get? b = some o→H b = none→b∉fs→b∉ex→h'.get? b = some o
  slot:∀ b o,h.get? b = some o→H b = none→b∈fs→b∉ex→∃ sl,h'.get? b = some { o with slots:=sl }
  free:∀ b o,h.get? b = some o→H b = none→b∉ex→H' b = none
  there:∀ b o,h.get? b = some o→b∉ex→∃ o',h'.get? b = some o'
  tups:∀ b xs,H b = some (.tup xs)→H' b = some (.tup xs)
  frzs:∀ b o u,H b = some (.frz o u)→H' b = some (.frz o u)
  tbls:∀ b ps,H b = some (.tbl ps)→∃ more,H' b = some (.tbl (ps ++ more))
section
variable {fs fs' ex ex':List Addr} {H H1 H2:Hp} {h h1 h2 h':Heap} {a x e:Addr} {o:HO}
theorem Un.any (u:Un fs ex H H1 h h1) {b:Addr} {ob:Obj} (q:h.get? b = some ob) (n:H b = none) (hx:b∉ex):∃ sl,h1.get? b = some { ob with slots:=sl }:=by
  by_cases hb:b∈fs
  · exact u.slot b ob q n hb hx
  · exact ⟨ob.slots,u.keep b ob q n hb hx⟩
theorem Un.kept (k:∀ b u,h.get? b = some u→h'.get? b = some u):Un fs ex H H h h' :=
  ⟨fun b ob q _ _ _=>k b ob q,fun b ob q _ _ _=>⟨ob.slots,k b ob q⟩,fun _ _ _ n _=>n,fun b ob q _=>⟨ob,k b ob q⟩,fun _ _ q=>q,fun _ _ _ q=>q,fun _ ps q=>⟨#[],by rw [q];simp⟩⟩
theorem Un.refl:Un fs ex H H h h:=Un.kept fun _ _ q=>q
theorem Un.laid (k:∀ b u,h.get? b = some u→h'.get? b = some u) (hp:h.objs.size≤a) (hn:H a = none):Un fs ex H (upd H a o) h h' where
  keep:=fun b u q _ _ _=>k b u q
  slot:=fun b u q _ _ _=>⟨u.slots,k b u q⟩
  free:=fun b u q n _=>by rw [upd_ne (Nat.ne_of_lt (Nat.lt_of_lt_of_le (Heap.lt_size q) hp))];exact n
  there:=fun b u q _=>⟨u,k b u q⟩
  tups:=fun b xs q=>by rw [upd_ne (ne_of_none q hn)];exact q
  frzs:=fun b u xs q=>by rw [upd_ne (ne_of_none q hn)];exact q
  tbls:=fun b ps q=>⟨#[],by rw [upd_ne (ne_of_none q hn),q];simp⟩
theorem Un.write (mu:Mut (H x)) (he:e = x∨H e = some (.own x)) (k:∀ b u,b≠e→h.get? b = some u→h'.get? b = some u) (heo:∃ u,h'.get? e = some u):Un fs ex H (upd H x o) h h':=by
  have hx:∀ b,H b = none→b≠x:=fun b n z=>by subst z;rw [n] at mu;exact mu
  have hb:∀ b,H b = none→b≠e:=fun b n z=>by
    subst z
    rcases he with r | r
    · exact hx b n r
    · rw [n] at r;cases r
  have hm:∀ b u,H b = some u→¬ Mut (some u)→b≠x:=fun b u q nm z=>by subst z;rw [q] at mu;exact nm mu
  refine ⟨fun b u q n _ _=>k b u (hb b n) q,fun b u q n _ _=>⟨u.slots,k b u (hb b n) q⟩,fun b u q n _=>by rw [upd_ne (hx b n)];exact n,fun b u q _=>?_,
    fun b xs q=>by rw [upd_ne (hm b _ q fun z=>z)];exact q,fun b u xs q=>by rw [upd_ne (hm b _ q fun z=>z)];exact q,fun b ps q=>⟨#[],by rw [upd_ne (hm b _ q fun z=>z),q];simp⟩⟩
  by_cases hbe:b = e
  · subst hbe;exact heo
  · exact ⟨u,k b u hbe q⟩
end
def trk (h:Heap) (H:Hp):List Addr:=(List.range h.objs.size).filter fun a=>(H a).isSome
def hidT (h:Heap) (H:Hp):Heap:=PySem.W.hideAll h (trk h H)
theorem hidT_size (h:Heap) (H:Hp):(hidT h H).objs.size = h.objs.size:=PySem.W.hideAll_size _ _
theorem hidT_get {h:Heap} {H:Hp} {b:Addr} {o:Obj} (e:h.get? b = some o) (n:H b = none):(hidT h H).get? b = some o :=
  PySem.W.hideAll_get _ e fun hm=>by
    have q:(H b).isSome = true:=(List.mem_filter.mp hm).2
    rw [n] at q;simp at q
theorem of_hidT {h:Heap} {H:Hp} {b:Addr} {o:Obj} (e:(hidT h H).get? b = some o):h.get? b = some o∧H b = none:=by
  have e':h.get? b = some o:=PySem.W.of_hideAll (trk h H) e
  refine ⟨e',?_⟩
  cases q:H b with
  | none=>rfl
  | some x =>
    have hm:b∈trk h H:=List.mem_filter.mpr ⟨List.mem_range.mpr (Heap.lt_size e'),by simp [q]⟩
    have z:(hidT h H).get? b = none:=PySem.W.hideAll_none (trk h H) hm
    rw [z] at e;cases e
def allNews (g h:Heap) (L:Addr):List (Addr×Obj):=(List.range h.objs.size).filterMap fun a=>if a = L∨(g.get? a).isSome = true then none else (h.get? a).map fun o=>(a,o)
def rest (g h:Heap) (L d:Addr):List (Addr×Obj):=(allNews g h L).filter fun p=>decide (p.1≠d)
end L2
namespace L2
open PySem PySem.Spec PyProof.Rows
structure Mod (K:PySem.W.Frag) (mg:Str→Option Value) (base:Heap):Prop where
  kin:K.In base
  glob:base.Ns mainGlobals mg
  blt:∃ mb,base.Ns builtinsNs mb∧∀ x:Str,x≠"__name__"→mb x = bootBuiltins x
  nolimit:base.NoLimit
structure Cx where
  prog:Program
  w:World
  K:PySem.W.Frag
  mg:Str→Option Value
  base:Heap
  A:Around
  N:List Str
  s₀:Shared
  H₀:Hp
  env:Env
  outer:List Env
  stack:List Env
  ex:List Addr
  fn:Str→Bool
  calm:Bool
  pn:List (Addr×Obj)
  xe:Value→Shared→Prop
def frs (l:List Env):List Addr:=l.filterMap (·.frame)
abbrev Cx.fs (X:Cx):List Addr:=frs X.outer
def Vis (sc:Scope) (x:Str):Prop:=sc.names.lookup x = some .local∨sc.names.lookup x = some .cell∨sc.names.lookup x = some .free
def Loc (sc:Scope) (x:Str):Prop:=sc.names.lookup x = some .local∨sc.names.lookup x = some .cell
def Look (env:Env) (h:Heap) (m:Str→Option Value) (x:Str) (u:Value):Prop :=
  (env.kindOf x = some .local∧m x = some u)∨((env.kindOf x = some .cell∨env.kindOf x = some .free)∧∃ c,env.cells.lookup x = some c∧h.IsCell c (some u))
structure Cx.Ok (X:Cx):Prop where
  mod:Mod X.K X.mg X.base
  kind:X.env.scope.kind = .function
  glob:X.env.globals = mainGlobals
  blt:X.env.builtins = builtinsNs
  above:X.s₀.heap.objs.size≤X.env.locals
  inj:∀ x y c,X.env.cells.lookup x = some c→X.env.cells.lookup y = some c→x = y
  has:∀ x,(X.env.kindOf x = some .cell∨X.env.kindOf x = some .free)→∃ c,X.env.cells.lookup x = some c
  cab:∀ x c,X.fn x = true→X.env.cells.lookup x = some c→X.s₀.heap.objs.size≤c
  hd:X.calm = true→X.A.handled = none
  frames:X.A.frames = some X.stack
  stk:X.stack = X.outer∨(X.stack = X.env :: X.outer∧X.env.frame = some X.env.locals)
  exf:∀ b∈X.ex,b≠X.env.locals∧∀ x c,X.env.cells.lookup x = some c→c≠b
  bs:∀ b o,X.base.get? b = some o→X.s₀.heap.get? b = some o∧X.H₀ b = none
  bsz:X.base.objs.size≤X.s₀.heap.objs.size
  noex:∀ b o,X.base.get? b = some o→b∉X.ex
  exfs:∀ b∈X.ex,b∉X.fs
  funs:X.s₀.heap.FunFrames X.base X.outer
  frf:∀ b∈X.fs,X.H₀ b = none
structure Inv (X:Cx) (pins:List (Addr×Obj)) (σ:List (Option V)) (H:Hp) (s:Shared):Prop where
  ok:X.Ok
  os:s.os = X.s₀.os
  bare:AllBare s.gens
  base:Un X.fs X.ex X.H₀ H X.s₀.heap s.heap
  loc:∃ m,s.heap.Ns X.env.locals m∧∀ (i:Nat) (x:Str) (v:V),X.N[i]? = some x→σ[i]? = some (some v)→Vis X.env.scope x→∃ u,RelV v u∧Look X.env s.heap m x u
  cell:∀ x c,X.env.cells.lookup x = some c→∃ v,s.heap.IsCell c v
  free:H X.env.locals = none
  freeC:∀ x c,X.env.cells.lookup x = some c→H c = none
  pin:∀ p∈X.pn ++ pins,s.heap.get? p.1 = some p.2∧H p.1 = none∧p.1≠X.env.locals∧p.1∉X.fs∧∀ v,p.2.data≠.cell v
  hok:HOk X.prog X.w H s.heap
  len:σ.length = X.N.length
section
variable {X:Cx} {pins:List (Addr×Obj)} {σ:List (Option V)} {H H':Hp} {s:Shared} {h':Heap}
theorem Cx.Ok.nofr (ok:X.Ok) {b:Addr} {o:Obj} (e:X.base.get? b = some o):b∉X.fs:=fun hb=>by
  have:=(ok.funs.mem hb).1
  rw [e] at this;cases this
theorem Inv.bs (I:Inv X pins σ H s):∀ b o,X.base.get? b = some o→s.heap.get? b = some o∧H b = none:=fun b o e =>
  ⟨I.base.keep b o (I.ok.bs b o e).1 (I.ok.bs b o e).2 (I.ok.nofr e) (I.ok.noex b o e),I.base.free b o (I.ok.bs b o e).1 (I.ok.bs b o e).2 (I.ok.noex b o e)⟩
theorem Inv.bk (I:Inv X pins σ H s):∀ b o,X.base.get? b = some o→s.heap.get? b = some o:=fun b o e=>(I.bs b o e).1
theorem Inv.mod (I:Inv X pins σ H s):Mod X.K X.mg X.base:=I.ok.mod
theorem Inv.kIn (I:Inv X pins σ H s):X.K.In s.heap:=I.ok.mod.kin.keeps I.bk
theorem Inv.lt (I:Inv X pins σ H s):X.env.locals < s.heap.objs.size:=let ⟨_,hn,_⟩:=I.loc;hn.lt
theorem Inv.sz (I:Inv X pins σ H s):X.s₀.heap.objs.size≤s.heap.objs.size:=Nat.le_trans I.ok.above (Nat.le_of_lt I.lt)
theorem Inv.nofs (I:Inv X pins σ H s) {a:Addr} (h:s.heap.objs.size≤a):a∉X.fs:=fun hb=>by
  obtain ⟨_,o,ho,_⟩:=I.ok.funs.mem hb
  exact absurd (Nat.lt_of_lt_of_le (Heap.lt_size ho) (Nat.le_trans I.sz h)) (Nat.lt_irrefl _)
theorem Inv.cne (I:Inv X pins σ H s):∀ x c,X.env.cells.lookup x = some c→c≠X.env.locals:=fun x c e z=>by
  obtain ⟨v,o,ho,hd⟩:=I.cell x c e
  obtain ⟨m,⟨o',es,ep,ho',hd',_⟩,_⟩:=I.loc
  rw [z,ho'] at ho;cases ho;rw [hd'] at hd;cases hd
theorem Inv.funs (I:Inv X pins σ H s):s.heap.FunFrames X.base X.outer:=by
  have all:∀ (l:List Env),(∀ b∈frs l,b∈X.fs)→X.s₀.heap.FunFrames X.base l→s.heap.FunFrames X.base l:=by
    intro l
    induction l with
    | nil=>intro _ _;trivial
    | cons env r ih =>
      intro hs hl
      obtain ⟨hk,⟨L,o,hf,hn,ho,hd⟩,hr⟩:=hl
      have hL:L∈X.fs:=hs L (by unfold frs;rw [List.filterMap_cons,hf];exact List.mem_cons_self)
      obtain ⟨sl,e⟩:=I.base.slot L o ho (I.ok.frf L hL) hL fun z=>I.ok.exfs L z hL
      exact ⟨hk,⟨L,_,hf,hn,e,hd⟩,ih (fun b hb=>hs b (by unfold frs;rw [List.filterMap_cons,hf];exact List.mem_cons_of_mem _ hb)) hr⟩
  exact all X.outer (fun _ hb=>hb) I.ok.funs
theorem Inv.stack (I:Inv X pins σ H s):s.heap.FunFrames X.base X.stack:=by
  rcases I.ok.stk with e | ⟨e,hf⟩
  · rw [e];exact I.funs
  · rw [e]
    obtain ⟨m,hn,_⟩:=I.loc
    refine .cons (by rw [I.ok.kind];decide) hf hn ?_ I.funs
    exact Heap.get?_none_of_le (Nat.le_trans I.ok.bsz I.ok.above)
theorem Inv.stkSub (I:Inv X pins σ H s):∀ b∈frs X.stack,b∈X.env.locals :: X.fs:=fun b hb=>by
  rcases I.ok.stk with e | ⟨e,hf⟩
  · rw [e] at hb;exact List.mem_cons_of_mem _ hb
  · rw [e] at hb
    unfold frs at hb
    rw [List.filterMap_cons,hf] at hb
    exact hb
theorem Inv.stkFree (I:Inv X pins σ H s):∀ b∈frs X.stack,H b = none:=fun b hb=>by
  rcases List.mem_cons.mp (I.stkSub b hb) with e | hb
  · rw [e];exact I.free
  · obtain ⟨_,o,ho,_⟩:=I.ok.funs.mem hb
    exact I.base.free b o ho (I.ok.frf b hb) fun z=>I.ok.exfs b z hb
theorem Inv.step {g':Array GenState} {t':Nat} {d':Drawn} {ch:List Addr} (I:Inv X pins σ H s)
    (hch:∀ b∈ch,(b∈X.ex∨X.s₀.heap.objs.size≤b)∧b≠X.env.locals∧(∀ x c,X.env.cells.lookup x = some c→c≠b)∧∀ p∈X.pn ++ pins,p.1≠b)
    (keep:∀ b o,b≠X.env.locals→b∉X.fs→b∉ch→s.heap.get? b = some o→H b = none→h'.get? b = some o)
    (slot:∀ b o,b≠X.env.locals→b∈X.fs→b∉ch→s.heap.get? b = some o→H b = none→∃ sl,h'.get? b = some { o with slots:=sl }) (free:∀ b o,b∉ch→s.heap.get? b = some o→H b = none→H' b = none)
    (there:∀ b o,b∉ch→s.heap.get? b = some o→∃ o',h'.get? b = some o')
    (tups:∀ b xs,H b = some (.tup xs)→H' b = some (.tup xs)) (frzs:∀ b o u,H b = some (.frz o u)→H' b = some (.frz o u)) (tbls:∀ b ps,H b = some (.tbl ps)→∃ more,H' b = some (.tbl (ps ++ more)))
    (ns:∀ m,s.heap.Ns X.env.locals m→h'.Ns X.env.locals m) (hok:HOk X.prog X.w H' h') (hg:AllBare g') :
    Inv X pins σ H' { s with heap:=h',gens:=g',drawn:=d',toks:=t' }:=by
  have neL:∀ b o,X.s₀.heap.get? b = some o→b≠X.env.locals:=fun b o e=>Nat.ne_of_lt (Nat.lt_of_lt_of_le (Heap.lt_size e) I.ok.above)
  have neC:∀ b o,X.s₀.heap.get? b = some o→b∉X.ex→b∉ch:=fun b o e hx hb=>by
    rcases (hch b hb).1 with z | z
    · exact hx z
    · exact absurd (Nat.lt_of_lt_of_le (Heap.lt_size e) z) (Nat.lt_irrefl _)
  have cellK:∀ x c,X.env.cells.lookup x = some c→∀ v,s.heap.IsCell c v→h'.IsCell c v:=fun x c e v ⟨o,ho,hd⟩=>by
    have nch:c∉ch:=fun z=>(hch c z).2.2.1 x c e rfl
    by_cases hc:c∈X.fs
    · obtain ⟨sl,q⟩:=slot c o (I.cne x c e) hc nch ho (I.freeC x c e)
      exact ⟨_,q,hd⟩
    · exact ⟨o,keep c o (I.cne x c e) hc nch ho (I.freeC x c e),hd⟩
  refine ⟨I.ok,I.os,hg,⟨fun b o e n hb hx=>?_,fun b o e n hb hx=>?_,fun b o e n hx=>?_,fun b o e hx=>?_,fun b xs e=>tups b xs (I.base.tups b xs e),fun b o xs e=>frzs b o xs (I.base.frzs b o xs e),fun b ps e=>?_⟩,?_,fun x c e=>?_,?_,fun x c e=>?_,fun p hp=>?_,hok,I.len⟩
  · exact keep b o (neL b o e) hb (neC b o e hx) (I.base.keep b o e n hb hx) (I.base.free b o e n hx)
  · obtain ⟨sl,e1⟩:=I.base.slot b o e n hb hx
    obtain ⟨sl',e2⟩:=slot b _ (neL b o e) hb (neC b o e hx) e1 (I.base.free b o e n hx)
    exact ⟨sl',e2⟩
  · obtain ⟨o',e1⟩:=I.base.there b o e hx
    exact free b o' (neC b o e hx) e1 (I.base.free b o e n hx)
  · obtain ⟨o',e1⟩:=I.base.there b o e hx
    exact there b o' (neC b o e hx) e1
  · obtain ⟨m1,e1⟩:=I.base.tbls b ps e
    obtain ⟨m2,e2⟩:=tbls b _ e1
    exact ⟨m1 ++ m2,by rw [e2,Array.append_assoc]⟩
  · obtain ⟨m,hn,hl⟩:=I.loc
    refine ⟨m,ns m hn,fun i x v e1 e2 e3=>?_⟩
    obtain ⟨u,r,l⟩:=hl i x v e1 e2 e3
    refine ⟨u,r,?_⟩
    rcases l with l | ⟨k,c,e,z⟩
    · exact .inl l
    · exact .inr ⟨k,c,e,cellK x c e _ z⟩
  · obtain ⟨v,z⟩:=I.cell x c e
    exact ⟨v,cellK x c e v z⟩
  · obtain ⟨m,⟨o,_,_,ho,_⟩,_⟩:=I.loc
    exact free _ o (fun z=>(hch _ z).2.1 rfl) ho I.free
  · obtain ⟨v,o,ho,hd⟩:=I.cell x c e
    exact free c o (fun z=>(hch c z).2.2.1 x c e rfl) ho (I.freeC x c e)
  · obtain ⟨e,n,ne,nf,d⟩:=I.pin p hp
    have nch:p.1∉ch:=fun z=>(hch p.1 z).2.2.2 p hp rfl
    exact ⟨keep p.1 p.2 ne nf nch e n,free p.1 p.2 nch e n,ne,nf,d⟩
theorem Inv.un {t':Nat} (I:Inv X pins σ H s) (u:Un X.fs [] H H' s.heap h') (hok:HOk X.prog X.w H' h'):Inv X pins σ H' { s with heap:=h',toks:=t' }:=by
  obtain ⟨m,⟨o,es,ep,ho,r⟩,_⟩:=id I.loc
  obtain ⟨sl,hL⟩:=u.any ho I.free (by simp)
  exact I.step (g':=s.gens) (d':=s.drawn) (ch:=[]) (fun _ z=>nomatch z) (fun b o _ hb _ e n=>u.keep b o e n hb (by simp)) (fun b o _ hb _ e n=>u.slot b o e n hb (by simp)) (fun b o _ e n=>u.free b o e n (by simp)) (fun b o _ e=>u.there b o e (by simp)) u.tups u.frzs u.tbls (fun m' hm=>by
    obtain ⟨o',es',ep',ho',r'⟩:=hm
    rw [ho] at ho';cases ho'
    exact ⟨_,es',ep',hL,r'⟩) hok I.bare
theorem Inv.call {g':Array GenState} {t':Nat} {d':Drawn} {ch:List Addr} (I:Inv X pins σ H s) (u:Un (frs X.stack) ch H H' s.heap h') (hok:HOk X.prog X.w H' h') (hg:AllBare g')
    (hch:∀ b∈ch,(b∈X.ex∨X.s₀.heap.objs.size≤b)∧b≠X.env.locals∧(∀ x c,X.env.cells.lookup x = some c→c≠b)∧∀ p∈X.pn ++ pins,p.1≠b) :
    Inv X pins σ H' { s with heap:=h',gens:=g',drawn:=d',toks:=t' }:=by
  obtain ⟨m,⟨o,es,ep,ho,r⟩,_⟩:=id I.loc
  obtain ⟨sl,hL⟩:=u.any ho I.free fun z=>(hch _ z).2.1 rfl
  exact I.step (ch:=ch) hch (fun b o hL hb hc e n=>u.keep b o e n (fun z=>(List.mem_cons.mp (I.stkSub b z)).elim hL hb) hc) (fun b o _ _ hc e n=>u.any e n hc) (fun b o hc e n=>u.free b o e n hc) (fun b o hc e=>u.there b o e hc) u.tups u.frzs u.tbls (fun m' hm=>by
    obtain ⟨o',es',ep',ho',r'⟩:=hm
    rw [ho] at ho';cases ho'
    exact ⟨_,es',ep',hL,r'⟩) hok hg
theorem Inv.turned {t':Nat} {it:Addr} (I:Inv X pins σ H s) (k:∀ b o,b≠it→s.heap.get? b = some o→h'.get? b = some o) (hn:H it = none) (hL:it≠X.env.locals)
    (h1:it∈X.ex∨X.s₀.heap.objs.size≤it) (h2:∀ x c,X.env.cells.lookup x = some c→c≠it) (h3:∀ p∈X.pn ++ pins,p.1≠it):Inv X pins σ H { s with heap:=h',toks:=t' }:=by
  have nit:∀ b u,H b = some u→b≠it:=fun b u e z=>by rw [z,hn] at e;cases e
  refine I.step (g':=s.gens) (d':=s.drawn) (ch:=[it]) (fun b hb=>?_) (fun b o _ _ hc e _=>k b o (fun z=>hc (by simp [z])) e) (fun b o _ _ hc e _=>⟨o.slots,k b o (fun z=>hc (by simp [z])) e⟩) (fun _ _ _ _ n=>n)
    (fun b o hc e=>⟨o,k b o (fun z=>hc (by simp [z])) e⟩) (fun _ _ e=>e) (fun _ _ _ e=>e) (fun b ps e=>⟨#[],by rw [e];simp⟩) (fun m hm=>?_) (fun b u e=>?_) I.bare
  · have e:b = it:=by simpa using hb
    subst e
    exact ⟨h1,hL,h2,h3⟩
  · obtain ⟨o,es,ep,ho,r⟩:=hm
    exact ⟨o,es,ep,k _ o (Ne.symm hL) ho,r⟩
  · refine (I.hok b u e).stay (fun c v hc q=>k c v ?_ q) (fun _ q=>q) fun _ _ q=>q
    rcases hc with z | z
    · rw [z];exact nit b u e
    · exact nit c _ z
theorem Inv.tok (I:Inv X pins σ H s) (t:Nat):Inv X pins σ H { s with toks:=t }:=I.un (h':=s.heap) (t':=t) Un.refl I.hok
theorem Inv.kept {t':Nat} (I:Inv X pins σ H s) (k:∀ b u,s.heap.get? b = some u→h'.get? b = some u):Inv X pins σ H { s with heap:=h',toks:=t' }:=I.un (Un.kept k) (I.hok.kept k)
theorem Inv.laid {a:Addr} {o:HO} {t':Nat} (I:Inv X pins σ H s) (k:∀ b u,s.heap.get? b = some u→h'.get? b = some u) (hp:s.heap.objs.size≤a) (new:ObjOk X.prog X.w (upd H a o) h' a o) :
    Inv X pins σ (upd H a o) { s with heap:=h',toks:=t' }:=I.un (Un.laid k hp (I.hok.fresh hp)) (I.hok.laid k hp new)
theorem Inv.write {x e:Addr} {o:HO} {t':Nat} (I:Inv X pins σ H s) (mu:Mut (H x)) (he:e = x∨H e = some (.own x)) (k:∀ b u,b≠e→s.heap.get? b = some u→h'.get? b = some u) (heo:∃ u,h'.get? e = some u)
    (new:ObjOk X.prog X.w (upd H x o) h' x o):Inv X pins σ (upd H x o) { s with heap:=h',toks:=t' }:=I.un (Un.write mu he k heo) (I.hok.write mu he k heo new)
theorem Inv.pins_of {pins':List (Addr×Obj)} (I:Inv X pins σ H s) (h:∀ p∈pins',s.heap.get? p.1 = some p.2∧H p.1 = none∧p.1≠X.env.locals∧p.1∉X.fs∧∀ v,p.2.data≠.cell v):Inv X pins' σ H s :=
  ⟨I.ok,I.os,I.bare,I.base,I.loc,I.cell,I.free,I.freeC,fun p hp=>(List.mem_append.mp hp).elim (fun z=>I.pin p (List.mem_append_left _ z)) (h p),I.hok,I.len⟩
theorem nodup_ix {N:List Str} (hN:N.Nodup) {i j:Nat} {x:Str} (a:N[i]? = some x) (b:N[j]? = some x):i = j:=by
  obtain ⟨h1,e1⟩:=List.getElem?_eq_some_iff.mp a
  obtain ⟨h2,e2⟩:=List.getElem?_eq_some_iff.mp b
  exact (List.getElem_inj hN).mp (e1.trans e2.symm)
theorem store_ok2 {M:Model} {A:Around} {E:Value→Shared→Prop} {i:Nat} {x:Str} {v:V} {u:Value} {Q:Unit→Shared→Prop} (I:Inv X pins σ H s) (hN:X.N.Nodup) (hi:X.N[i]? = some x) (hx:Loc X.env.scope x) (r:RelV v u)
    (h:∀ s',Inv X pins (σ.set i (some v)) H s'→(∃ a,Heap.SameBut a s.heap s'.heap∧(a = X.env.locals∨X.env.cells.lookup x = some a))→Q () s') (hf:X.fn x = true∨X.env.scope.names.lookup x = some .local:=by first | exact .inl rfl | exact .inr rfl | assumption):wpAny M A (storeName X.env x u) Q E s:=by
  obtain ⟨m,hn,hl⟩:=id I.loc
  have hcls:(X.env.scope.kind == .class || (X.env.scope.kind == .module && X.env.locals != X.env.globals)) = false:=by rw [I.ok.kind];rfl
  have hiσ:i < σ.length:=by rw [I.len];exact (List.getElem?_eq_some_iff.mp hi).1
  have cne:=I.cne
  have tracked:∀ {a:Addr} {h':Heap},(∃ o,s.heap.get? a = some o∧H a = none)→Heap.SameBut a s.heap h'→HOk X.prog X.w H h':=fun {a h'} ha hs b ob e=>by
    obtain ⟨_,_,hfree⟩:=ha
    refine (I.hok b ob e).stay (fun c w' hc q=>(hs.2 c ?_).trans q) (fun _ q=>q) fun _ _ q=>q
    rintro rfl
    rcases hc with rfl | hc
    · rw [hfree] at e;cases e
    · rw [hfree] at hc;cases hc
  rcases hx with hk | hk
  · refine wpAny_storeName_local hk hn (fun h' hn' hs=>?_) hcls
    obtain ⟨oL,_,_,hoL,_⟩:=id hn
    refine h _ ⟨I.ok,I.os,I.bare,⟨fun b o e n hb hx=>?_,fun b o e n hb hx=>?_,I.base.free,fun b o e hx=>?_,I.base.tups,I.base.frzs,I.base.tbls⟩,⟨_,hn',fun j y v' e1 e2 e3=>?_⟩,fun y c e=>?_,I.free,I.freeC,fun p hp=>?_,tracked ⟨oL,hoL,I.free⟩ hs,by simpa using I.len⟩ ⟨_,hs,.inl rfl⟩
    · exact (hs.2 b (Nat.ne_of_lt (Nat.lt_of_lt_of_le (Heap.lt_size e) I.ok.above))).trans (I.base.keep b o e n hb hx)
    · obtain ⟨sl,e1⟩:=I.base.slot b o e n hb hx
      exact ⟨sl,(hs.2 b (Nat.ne_of_lt (Nat.lt_of_lt_of_le (Heap.lt_size e) I.ok.above))).trans e1⟩
    · obtain ⟨o',e1⟩:=I.base.there b o e hx
      exact ⟨o',(hs.2 b (Nat.ne_of_lt (Nat.lt_of_lt_of_le (Heap.lt_size e) I.ok.above))).trans e1⟩
    · by_cases hj:j = i
      · subst hj
        rw [hi] at e1;cases e1
        rw [List.getElem?_set_self hiσ] at e2
        cases e2
        exact ⟨u,r,.inl ⟨hk,by simp⟩⟩
      · rw [List.getElem?_set_ne (Ne.symm hj)] at e2
        obtain ⟨u',r',q⟩:=hl j y v' e1 e2 e3
        refine ⟨u',r',?_⟩
        rcases q with ⟨k,e⟩ | ⟨k,c,e,z⟩
        · refine .inl ⟨k,?_⟩
          have:y≠x:=fun e=>hj (nodup_ix hN e1 (e ▸ hi))
          simp [this,e]
        · exact .inr ⟨k,c,e,z.sameBut hs (cne y c e)⟩
    · obtain ⟨w',z⟩:=I.cell y c e
      exact ⟨w',z.sameBut hs (cne y c e)⟩
    · obtain ⟨e,n,ne,nf,d⟩:=I.pin p hp
      exact ⟨(hs.2 p.1 ne).trans e,n,ne,nf,d⟩
  · have hfn:X.fn x = true:=by
      rcases hf with z | z
      · exact z
      · rw [z] at hk;cases hk
    obtain ⟨c,hc⟩:=I.ok.has x (.inl hk)
    obtain ⟨w',z⟩:=I.cell x c hc
    refine wpAny_storeName_cell I.ok.kind hk hc z (fun h' hc' hs=>?_)
    obtain ⟨oc,hoc,hocd⟩:=id z
    refine h { s with heap:=h' } ⟨I.ok,I.os,I.bare,⟨fun b o e n hb hx=>?_,fun b o e n hb hx=>?_,I.base.free,fun b o e hx=>?_,I.base.tups,I.base.frzs,I.base.tbls⟩,⟨m,hn.sameBut hs (Ne.symm (cne x c hc)),fun j y v' e1 e2 e3=>?_⟩,fun y c' e=>?_,I.free,I.freeC,fun p hp=>?_,tracked ⟨oc,hoc,I.freeC x c hc⟩ hs,by simpa using I.len⟩ ⟨c,hs,.inr hc⟩
    · exact (hs.2 b (Nat.ne_of_lt (Nat.lt_of_lt_of_le (Heap.lt_size e) (I.ok.cab x c hfn hc)))).trans (I.base.keep b o e n hb hx)
    · obtain ⟨sl,e1⟩:=I.base.slot b o e n hb hx
      exact ⟨sl,(hs.2 b (Nat.ne_of_lt (Nat.lt_of_lt_of_le (Heap.lt_size e) (I.ok.cab x c hfn hc)))).trans e1⟩
    · obtain ⟨o',e1⟩:=I.base.there b o e hx
      exact ⟨o',(hs.2 b (Nat.ne_of_lt (Nat.lt_of_lt_of_le (Heap.lt_size e) (I.ok.cab x c hfn hc)))).trans e1⟩
    · by_cases hj:j = i
      · subst hj
        rw [hi] at e1;cases e1
        rw [List.getElem?_set_self hiσ] at e2
        cases e2
        exact ⟨u,r,.inr ⟨.inl hk,c,hc,hc'⟩⟩
      · rw [List.getElem?_set_ne (Ne.symm hj)] at e2
        obtain ⟨u',r',q⟩:=hl j y v' e1 e2 e3
        refine ⟨u',r',?_⟩
        rcases q with q | ⟨k,c',e,z'⟩
        · exact .inl q
        · refine .inr ⟨k,c',e,z'.sameBut hs ?_⟩
          rintro rfl
          exact hj (nodup_ix hN e1 (I.ok.inj _ _ _ e hc ▸ hi))
    · by_cases hcc:c' = c
      · subst hcc;exact ⟨_,hc'⟩
      · obtain ⟨w2,z2⟩:=I.cell y c' e
        exact ⟨w2,z2.sameBut hs hcc⟩
    · obtain ⟨e,n,ne,nf,d⟩:=I.pin p hp
      refine ⟨(hs.2 p.1 ?_).trans e,n,ne,nf,d⟩
      intro q
      rw [q,hoc] at e
      have q':oc = p.2:=Option.some.inj e
      exact d w' (by rw [← q'];exact hocd)
theorem store_ok {M:Model} {A:Around} {E:Value→Shared→Prop} {i:Nat} {x:Str} {v:V} {u:Value} {Q:Unit→Shared→Prop} (I:Inv X pins σ H s) (hN:X.N.Nodup) (hi:X.N[i]? = some x) (hx:Loc X.env.scope x) (r:RelV v u)
    (h:∀ s',Inv X pins (σ.set i (some v)) H s'→Q () s') (hf:X.fn x = true∨X.env.scope.names.lookup x = some .local:=by first | exact .inl rfl | exact .inr rfl | assumption):wpAny M A (storeName X.env x u) Q E s :=
  store_ok2 I hN hi hx r (fun s' I' _=>h s' I') hf
theorem Inv.call' {s':Shared} {ch:List Addr} (I:Inv X pins σ H s) (ho:s'.os = s.os) (u:Un (frs X.stack) ch H H' s.heap s'.heap) (hok:HOk X.prog X.w H' s'.heap) (hg:AllBare s'.gens)
    (hch:∀ b∈ch,(b∈X.ex∨X.s₀.heap.objs.size≤b)∧b≠X.env.locals∧(∀ x c,X.env.cells.lookup x = some c→c≠b)∧∀ p∈X.pn ++ pins,p.1≠b):Inv X pins σ H' s':=by
  obtain ⟨h',g',d',t',o'⟩:=s'
  have e:o' = s.os:=ho
  subst e
  exact I.call (g':=g') (t':=t') (d':=d') u hok hg hch
end
abbrev XK:=Value→Option Addr→Hp→Prop
abbrev St:=List (Option V)
abbrev VK:=V→Hp→Prop
abbrev TE:=St→Hp→VK→Prop
abbrev TT:=St→Hp→(Bool→Hp→Prop)→Prop
abbrev TA:=St→Hp→(List V→Hp→Prop)→Prop
structure Ends where
  nx:St→Hp→Prop
  rt:VK
  bk:St→Hp→Prop:=fun _ _=>False
  ct:St→Hp→Prop:=fun _ _=>False
abbrev TS:=Ends→St→Hp→Prop
def Ends.seq (D:Ends) (u:TS):Ends:={ D with nx:=u D }
def Ends.loop (D:Ends) (N:St→Hp→Prop):Ends:={ D with nx:=N,ct:=N,bk:=D.nx }
def EP (X:Cx) (pins:List (Addr×Obj)) (σ:St) (Q:VK) (u:Value) (s':Shared):Prop:=∃ v H',Inv X pins σ H' s'∧RelV v u∧Q v H'
def TP (X:Cx) (pins:List (Addr×Obj)) (σ:St) (Q:Bool→Hp→Prop) (b:Bool) (s':Shared):Prop:=∃ H',Inv X pins σ H' s'∧Q b H'
def AP (X:Cx) (pins:List (Addr×Obj)) (σ:St) (Q:List V→Hp→Prop) (us:List Value) (s':Shared):Prop:=∃ vs H',Inv X pins σ H' s'∧Vals vs us∧Q vs H'
def SP (X:Cx) (pins:List (Addr×Obj)) (D:Ends) (f:Flow) (s':Shared):Prop :=
  match f with
  | .next=>∃ σ' H',Inv X pins σ' H' s'∧D.nx σ' H'
  | .brk=>∃ σ' H',Inv X pins σ' H' s'∧D.bk σ' H'
  | .cont=>∃ σ' H',Inv X pins σ' H' s'∧D.ct σ' H'
  | .ret u=>∃ v σ' H',Inv X pins σ' H' s'∧RelV v u∧D.rt v H'
def PE (X:Cx) (e:Expr) (t:TE):Prop :=
  ∀ (pins:List (Addr×Obj)) (s:Shared) (σ:St) (H:Hp) (Q:VK),Inv X pins σ H s→t σ H Q→wpAny (model X.prog X.w) X.A (eval e X.env) (EP X pins σ Q) X.xe s
def PT (X:Cx) (e:Expr) (t:TT):Prop :=
  ∀ (pins:List (Addr×Obj)) (s:Shared) (σ:St) (H:Hp) (Q:Bool→Hp→Prop),Inv X pins σ H s→t σ H Q→wpAny (model X.prog X.w) X.A (isTrue e X.env (eval e X.env)) (TP X pins σ Q) X.xe s
def PW (X:Cx) (e:Expr) (t:TT):Prop :=
  ∀ (whole:Sem Value) (pins:List (Addr×Obj)) (s:Shared) (σ:St) (H:Hp) (Q:Bool→Hp→Prop),Inv X pins σ H s→t σ H Q→wpAny (model X.prog X.w) X.A (isTrue e X.env whole) (TP X pins σ Q) X.xe s
theorem PW.pt {X:Cx} {e:Expr} {t:TT} (h:PW X e t):PT X e t:=h _
def PA (X:Cx) (es:List Expr) (t:TA):Prop :=
  ∀ (pos:Pos) (pins:List (Addr×Obj)) (s:Shared) (σ:St) (H:Hp) (Q:List V→Hp→Prop),Inv X pins σ H s→t σ H Q→wpAny (model X.prog X.w) X.A (spliced (backTo pos (starEach es X.env))) (AP X pins σ Q) X.xe s
def PS (X:Cx) (st:Stmt) (t:TS):Prop :=
  ∀ (pins:List (Addr×Obj)) (s:Shared) (σ:St) (H:Hp) (D:Ends),Inv X pins σ H s→t D σ H→wpAny (model X.prog X.w) X.A (exec st X.env) (SP X pins D) X.xe s
def PSs (X:Cx) (st:List Stmt) (t:TS):Prop :=
  ∀ (pins:List (Addr×Obj)) (s:Shared) (σ:St) (H:Hp) (D:Ends),Inv X pins σ H s→t D σ H→wpAny (model X.prog X.w) X.A (execs st X.env) (SP X pins D) X.xe s
theorem thn {α:Type} {t:Sem α} {Q Q':α→Shared→Prop} {M:Model} {A:Around} {E:Value→Shared→Prop} {s:Shared} (h:wpAny M A t Q E s) (hQ:∀ a s,Q a s→Q' a s):wpAny M A t Q' E s:=wpAny_mono h hQ fun _ _ x=>x
end L2
namespace L2
open PySem PySem.Spec PyProof.Rows
section
variable {X:Cx}
inductive XVar (σ:St) (i:Nat) (H:Hp) (Q:VK):Prop
  | mk (v:V):σ[i]? = some (some v)→Q v H→XVar σ i H Q
def tVar (i:Nat):TE:=fun σ H Q=>XVar σ i H Q
def tC (v:V):TE:=fun _ H Q=>Q v H
theorem pe_var {i:Nat} {x:Str} {pos:Pos} (hN:X.N[i]? = some x) (hv:Vis X.env.scope x) (hd:(x == ("__debug__":Str)) = false:=by decide) (hcd:(x == ("__classdict__":Str)) = false:=by decide):PE X (.Name x pos) (tVar i):=by
  intro pins s σ H Q I h
  obtain ⟨v,e,h⟩:=h
  obtain ⟨m,hn,hl⟩:=I.loc
  obtain ⟨u,r,l⟩:=hl i x v hN e hv
  have fin:EP X pins σ Q u s:=⟨v,H,I,r,h⟩
  rcases l with ⟨hk,hm⟩ | ⟨hk,c,hc,hcell⟩
  · exact wpAny_Name (wpAny_loadName_local I.ok.kind hk hn hm fin) hd
  · rcases hk with hk | hk
    · exact wpAny_Name (wpAny_loadName_cell I.ok.kind hk hc hcell fin) hd
    · exact wpAny_Name (wpAny_loadName_free I.ok.kind hk hc hcell fin hcd) hd
theorem pe_int {i j pos}:PE X (.Constant (.int i) j pos) (tC (.int i)):=fun _ _ _ H _ I h=>wpAny_Constant_int ⟨.int i,H,I.tok _,⟨_,rfl⟩,h⟩
theorem pe_bl {b j pos}:PE X (.Constant (.bool b) j pos) (tC (.bl b)):=fun _ _ _ H _ I h=>Constant_bool ⟨.bl b,H,I,rfl,h⟩
theorem pe_non {j pos}:PE X (.Constant .none j pos) (tC .non):=fun _ _ _ H _ I h=>Constant_none ⟨.non,H,I,rfl,h⟩
theorem pe_str {x j pos}:PE X (.Constant (.str x) j pos) (tC (.str x)):=fun _ _ _ H _ I h=>Calls.Constant_str ⟨.str x,H,I.tok _,⟨_,rfl⟩,h⟩
def Gl (X:Cx) (x:Str):Prop:=X.env.kindOf x = some .globalImplicit
theorem ld_glob {E:Value→Shared→Prop} {pins:List (Addr×Obj)} {s:Shared} {σ:St} {H:Hp} {x:Str} {u:Value} {pos:Pos} {Q:Value→Shared→Prop} (I:Inv X pins σ H s) (hg:Gl X x) (hm:X.mg x = some u) (h:Q u s)
    (hd:(x == ("__debug__":Str)) = false:=by decide):wpAny (model X.prog X.w) X.A (eval (.Name x pos) X.env) Q E s :=
  Calls.Name_function_global I.ok.kind hg (Calls.loadGlobal_global (by rw [I.ok.glob];exact I.mod.glob.keeps I.bk) hm h) hd
theorem ld_blt {E:Value→Shared→Prop} {pins:List (Addr×Obj)} {s:Shared} {σ:St} {H:Hp} {x:Str} {u:Value} {pos:Pos} {Q:Value→Shared→Prop} (I:Inv X pins σ H s) (hg:Gl X x) (hm:X.mg x = none) (hv:bootBuiltins x = some u) (h:Q u s)
    (hn:x≠"__name__":=by decide) (hd:(x == ("__debug__":Str)) = false:=by decide):wpAny (model X.prog X.w) X.A (eval (.Name x pos) X.env) Q E s:=by
  obtain ⟨mb,h1,h2⟩:=I.mod.blt
  exact Calls.Name_function_global I.ok.kind hg (Calls.loadGlobal_builtin (by rw [I.ok.glob];exact I.mod.glob.keeps I.bk) hm (by rw [I.ok.blt];exact h1.keeps I.bk) ((h2 x hn).trans hv) h) hd
theorem pe_bltn {x:Str} {v:V} {u:Value} {pos:Pos} (hg:Gl X x) (hm:X.mg x = none) (hv:bootBuiltins x = some u) (r:RelV v u) (hn:x≠"__name__":=by decide) (hd:(x == ("__debug__":Str)) = false:=by decide):PE X (.Name x pos) (tC v) :=
  fun _ _ _ H _ I h=>ld_blt I hg hm hv ⟨v,H,I,r,h⟩ hn hd
def t2I (ta tb:TE) (k:Int→Int→Hp→Prop):St→Hp→Prop:=fun σ H=>ta σ H fun x H1=>tb σ H1 fun y H2=>∃ i j,x = .int i∧y = .int j∧k i j H2
def tAdd (ta tb:TE):TE:=fun σ H Q=>t2I ta tb (fun i j H2=>Q (.int (i + j)) H2) σ H
def tSub (ta tb:TE):TE:=fun σ H Q=>t2I ta tb (fun i j H2=>Q (.int (i - j)) H2) σ H
def tMul (ta tb:TE):TE:=fun σ H Q=>t2I ta tb (fun i j H2=>(-(2 ^ 64) < i∧i < 2 ^ 64)∧Q (.int (i * j)) H2) σ H
variable {a b:Expr} {ta tb:TE} {pos:Pos}
def PC (X:Cx) (op:CmpOp) (a b:Expr) (t:TE):Prop :=
  ∀ (pins:List (Addr×Obj)) (s:Shared) (σ:St) (H:Hp) (Q:VK),Inv X pins σ H s→t σ H Q →
    wpAny (model X.prog X.w) X.A (eval a X.env) (fun v s₁=>wpAny (model X.prog X.w) X.A (eval b X.env) (fun u s₂=>wpAny (model X.prog X.w) X.A (compareOp op v u) (EP X pins σ Q) X.xe s₂) X.xe s₁) X.xe s
theorem nobehind (b:Expr) {op:CmpOp} (h:op≠.In) (h2:op≠.NotIn):behindInMarks op b = false:=by
  have e1:(op == CmpOp.In) = false:=by cases op <;> first | rfl | exact absurd rfl h
  have e2:(op == CmpOp.NotIn) = false:=by cases op <;> first | rfl | exact absurd rfl h2
  cases b <;> simp [behindInMarks,e1,e2]
def tCmp (p:Int→Int→Bool) (ta tb:TE):TE:=fun σ H Q=>t2I ta tb (fun i j H2=>Q (.bl (p i j)) H2) σ H
abbrev tLt:TE→TE→TE:=tCmp fun i j=>decide (i < j)
abbrev tLe:TE→TE→TE:=tCmp fun i j=>decide (i≤j)
abbrev tGt:TE→TE→TE:=tCmp fun i j=>decide (j < i)
abbrev tGe:TE→TE→TE:=tCmp fun i j=>decide (j≤i)
abbrev tEqI:TE→TE→TE:=tCmp fun i j=>decide (i = j)
abbrev tNeI:TE→TE→TE:=tCmp fun i j=>!decide (i = j)
def tIsN (ta:TE):TE:=fun σ H Q=>ta σ H fun x H1=>Q (.bl (decide (x = .non))) H1
def tNotN (ta:TE):TE:=fun σ H Q=>ta σ H fun x H1=>Q (.bl (!decide (x = .non))) H1
inductive XBl (x:V) (H:Hp) (Q:Bool→Hp→Prop):Prop
  | mk (c:Bool):x = .bl c→Q c H→XBl x H Q
def tB (t:TE):TT:=fun σ H Q=>t σ H fun x H1=>XBl x H1 Q
theorem pe_cmp {op:CmpOp} {t:TE} (h:PC X op a b t) (h1:behindInMarks op b = false:=by first | exact nobehind _ (by decide) (by decide) | rfl):PE X (.Compare a [op] [b] pos) t:=fun pins s σ H Q I hw=>wpAny_Compare1 (h pins s σ H Q I hw) h1
theorem pt_cmp {op:CmpOp} {t:TE} (h:PC X op a b t) (h1:behindInMarks op b = false:=by first | exact nobehind _ (by decide) (by decide) | rfl):PT X (.Compare a [op] [b] pos) (tB t):=by
  intro pins s σ H Q I hw
  refine wpAny_isTrue_Compare1 (thn (h pins s σ H _ I hw) fun v s1 h1=>thn h1 fun u s2 h2=>thn h2 fun c s3 ⟨x,H1,I1,r1,q1⟩=>?_) h1
  obtain ⟨d,rfl,q⟩:=q1
  cases r1
  exact wpAny_truthy_bool ⟨H1,I1,q⟩
theorem pt_val {e:Expr} {t:TE} (h:PE X e t) (he:∀ whole,isTrue e X.env whole = (do let v ← whole;standAt e.pos;holding [v] (truthy v)):=by intro _;rfl):PT X e (tB t):=by
  intro pins s σ H Q I hw
  refine isTrue_plain (thn (h pins s σ H _ I hw) fun v s1 ⟨x,H1,I1,r1,q1⟩=>?_) (he _)
  obtain ⟨d,rfl,q⟩:=q1
  cases r1
  exact wpAny_truthy_bool ⟨H1,I1,q⟩
variable {tA tB':TT} {rest:List Expr}
def tAnd (t u:TT):TT:=fun σ H Q=>t σ H fun c H1=>if c = true then u σ H1 Q else Q false H1
def tOr (t u:TT):TT:=fun σ H Q=>t σ H fun c H1=>if c = true then Q true H1 else u σ H1 Q
def tNot (t:TT):TT:=fun σ H Q=>t σ H fun c H1=>Q (!c) H1
theorem pw_and1 (ha:PT X a tA):PW X (.BoolOp .And [a] pos) tA:=by
  intro wh pins s σ H Q I h
  refine isTrue_and (thn (ha pins s σ H Q I h) fun c s1 e=>?_)
  cases c with
  | true=>exact isTrue_and_nil e
  | false=>exact e
theorem pw_or1 (ha:PT X a tA):PW X (.BoolOp .Or [a] pos) tA:=by
  intro wh pins s σ H Q I h
  refine isTrue_or (thn (ha pins s σ H Q I h) fun c s1 e=>?_)
  cases c with
  | false=>exact isTrue_or_nil e
  | true=>exact e
theorem pw_and (ha:PT X a tA) (hb:PW X (.BoolOp .And (b :: rest) pos) tB'):PW X (.BoolOp .And (a :: b :: rest) pos) (tAnd tA tB'):=by
  intro wh pins s σ H Q I h
  refine isTrue_and (thn (ha pins s σ H _ I h) fun c s1 ⟨H1,I1,q1⟩=>?_)
  cases c with
  | true=>exact hb wh pins s1 σ H1 Q I1 q1
  | false=>exact ⟨H1,I1,q1⟩
theorem pw_or (ha:PT X a tA) (hb:PW X (.BoolOp .Or (b :: rest) pos) tB'):PW X (.BoolOp .Or (a :: b :: rest) pos) (tOr tA tB'):=by
  intro wh pins s σ H Q I h
  refine isTrue_or (thn (ha pins s σ H _ I h) fun c s1 ⟨H1,I1,q1⟩=>?_)
  cases c with
  | true=>exact ⟨H1,I1,q1⟩
  | false=>exact hb wh pins s1 σ H1 Q I1 q1
theorem pt_not (ha:PT X a tA):PT X (.UnaryOp .Not a pos) (tNot tA):=by
  intro pins s σ H Q I h
  exact isTrue_not (ha pins s σ H (fun c H1=>Q (!c) H1) I h)
def tAndV (ta tb:TE):TE:=fun σ H Q=>ta σ H fun x H1=>∃ c,x = .bl c∧if c = true then tb σ H1 Q else Q (.bl false) H1
def tOrV (ta tb:TE):TE:=fun σ H Q=>ta σ H fun x H1=>∃ c,x = .bl c∧if c = true then Q (.bl true) H1 else tb σ H1 Q
def tNotV (ta:TE):TE:=fun σ H Q=>ta σ H fun x H1=>∃ c,x = .bl c∧Q (.bl (!c)) H1
theorem pe_one {op} {t:TE} (h:PE X a t):PE X (.BoolOp op [a] pos) t:=fun pins s σ H Q I hw=>BoolOp_one (h pins s σ H Q I hw)
theorem pe_and (ha:PE X a ta) (hb:PE X (.BoolOp .And (b :: rest) pos) tb):PE X (.BoolOp .And (a :: b :: rest) pos) (tAndV ta tb):=by
  intro pins s σ H Q I h
  refine BoolOp_and (thn (ha pins s σ H _ I h) fun v s1 ⟨x,H1,I1,r1,q1⟩=>?_)
  obtain ⟨c,rfl,q1⟩:=q1
  cases r1
  refine wpAny_truthy_bool ?_
  cases c with
  | true=>exact hb pins s1 σ H1 Q I1 q1
  | false=>exact ⟨.bl false,H1,I1,rfl,q1⟩
def tIf (t:TT) (ta tb:TE):TE:=fun σ H Q=>t σ H fun c H1=>if c = true then ta σ H1 Q else tb σ H1 Q
end
end L2
namespace L2
open PySem PySem.Spec PyProof.Rows
def SqL (K:PySem.W.Frag) (H:Hp) (a:Addr) (xs:List V):Prop :=
  Rd H a (.lst xs) ∨
    ∃ (o:Obj) (its:Array Value) (n:Nat),K.lookup a = some o∧o.cls = .type "list"∧o.dict = none∧o.data = .seq its n∧its.size≤sizeLine∧Vals xs its.toList
def SqT (K:PySem.W.Frag) (H:Hp) (a:Addr) (xs:List V):Prop :=
  Rd H a (.tup xs) ∨
    ∃ (o:Obj) (its:Array Value) (n:Nat),K.lookup a = some o∧o.cls = .type "tuple"∧o.data = .seq its n∧its.size≤sizeLine∧Vals xs its.toList
def absV:Value→Option V
  | .none=>some .non
  | .bool b=>some (.bl b)
  | .int i _=>some (.int i)
  | .str x _=>some (.str x)
  | .bytes b _=>some (.byt b)
  | .float b _=>some (.flt b)
  | .ref a=>some (.ref a)
  | .type n=>some (.ty n)
  | _=>none
theorem RelV.abs {x:V} {u:Value} (r:RelV x u):absV u = some x:=by
  cases x with
  | non=>cases r;rfl
  | bl _=>cases r;rfl
  | int _=>obtain ⟨t,rfl⟩:=r;rfl
  | str _=>obtain ⟨t,rfl⟩:=r;rfl
  | byt _=>obtain ⟨t,rfl⟩:=r;rfl
  | flt _=>obtain ⟨t,rfl⟩:=r;rfl
  | ref _=>cases r;rfl
  | ty _=>cases r;rfl
theorem RelV.inj {x y:V} {u:Value} (r:RelV x u) (q:RelV y u):x = y:=Option.some.inj (r.abs.symm.trans q.abs)
theorem Vals.inj:∀ {xs ys:List V} {us:List Value},Vals xs us→Vals ys us→xs = ys
  | _,_,_,.nil,.nil=>rfl
  | _,_,_,.cons r t,.cons r' t'=>by rw [r.inj r',Vals.inj t t']
section
variable {X:Cx} {pins:List (Addr×Obj)} {σ:St} {H:Hp} {s:Shared} {a:Addr} {xs ys:List V}
theorem SqL.of {K:PySem.W.Frag} (h:H a = some (.lst xs)):SqL K H a xs:=.inl (.inl h)
theorem SqT.of {K:PySem.W.Frag} (h:H a = some (.tup xs)):SqT K H a xs:=.inl (.inl h)
theorem Inv.list (I:Inv X pins σ H s) (h:SqL X.K H a xs):∃ its:List Value,Vals xs its∧PlainL s.heap a its.toArray∧xs.length≤sizeLine:=by
  rcases h with h | ⟨o,its,n,hk,hc,hd,hs,hz,r⟩
  · obtain ⟨z,its,n,r,e⟩:=h.ok I.hok
    exact ⟨its,r,⟨_,n,e,rfl,rfl,rfl⟩,z⟩
  · refine ⟨its.toList,r,⟨o,n,I.kIn a o hk,hc,hd,by simpa using hs⟩,?_⟩
    have e:=r.length
    simp only [Array.length_toList] at e
    omega
theorem Inv.tuple (I:Inv X pins σ H s) (h:SqT X.K H a xs):∃ its:List Value,Vals xs its∧IsTup s.heap a its.toArray∧xs.length≤sizeLine:=by
  rcases h with h | ⟨o,its,n,hk,hc,hs,hz,r⟩
  · obtain ⟨z,its,r,p⟩:=h.ok I.hok
    exact ⟨its,r,p,z⟩
  · refine ⟨its.toList,r,⟨o,I.kIn a o hk,hc,n,by simpa using hs⟩,?_⟩
    have e:=r.length
    simp only [Array.length_toList] at e
    omega
theorem Inv.list_inj (I:Inv X pins σ H s) (h:SqL X.K H a xs) (h':SqL X.K H a ys):xs = ys:=by
  obtain ⟨its,r,⟨o,n,e,_,_,d⟩,_⟩:=I.list h
  obtain ⟨its',r',⟨o',n',e',_,_,d'⟩,_⟩:=I.list h'
  rw [e] at e';cases e'
  rw [d] at d'
  injection d' with d1 _
  have:its = its':=by simpa using congrArg Array.toList d1
  subst this
  exact r.inj r'
theorem Inv.tuple_inj (I:Inv X pins σ H s) (h:SqT X.K H a xs) (h':SqT X.K H a ys):xs = ys:=by
  obtain ⟨its,r,⟨o,e,_,n,d⟩,_⟩:=I.tuple h
  obtain ⟨its',r',⟨o',e',_,n',d'⟩,_⟩:=I.tuple h'
  rw [e] at e';cases e'
  rw [d] at d'
  injection d' with d1 _
  have:its = its':=by simpa using congrArg Array.toList d1
  subst this
  exact r.inj r'
end
abbrev Cx.wish (X:Cx) (E:Value→Shared→Prop):Cx:={ X with xe:=E }
abbrev Cx.nox (X:Cx):Cx:=X.wish fun _ _=>False
theorem Cx.Ok.wish {X:Cx} (ok:X.Ok) (E:Value→Shared→Prop):(X.wish E).Ok :=
  ⟨ok.mod,ok.kind,ok.glob,ok.blt,ok.above,ok.inj,ok.has,ok.cab,ok.hd,ok.frames,ok.stk,ok.exf,ok.bs,ok.bsz,ok.noex,ok.exfs,ok.funs,ok.frf⟩
theorem Cx.Ok.unwish {X:Cx} {E:Value→Shared→Prop} (ok:(X.wish E).Ok):X.Ok :=
  ⟨ok.mod,ok.kind,ok.glob,ok.blt,ok.above,ok.inj,ok.has,ok.cab,ok.hd,ok.frames,ok.stk,ok.exf,ok.bs,ok.bsz,ok.noex,ok.exfs,ok.funs,ok.frf⟩
section
variable {X:Cx} {pins:List (Addr×Obj)} {σ:St} {H:Hp} {s:Shared} {E:Value→Shared→Prop}
theorem Inv.wish (I:Inv X pins σ H s) (E:Value→Shared→Prop):Inv (X.wish E) pins σ H s:=⟨I.ok.wish E,I.os,I.bare,I.base,I.loc,I.cell,I.free,I.freeC,I.pin,I.hok,I.len⟩
theorem Inv.unwish (I:Inv (X.wish E) pins σ H s):Inv X pins σ H s:=⟨I.ok.unwish,I.os,I.bare,I.base,I.loc,I.cell,I.free,I.freeC,I.pin,I.hok,I.len⟩
theorem SP.unwish {D:Ends} {f:Flow} {s':Shared} (h:SP (X.wish E) pins D f s'):SP X pins D f s':=by
  cases f with
  | next=>obtain ⟨σ',H',I,q⟩:=h;exact ⟨σ',H',I.unwish,q⟩
  | brk=>obtain ⟨σ',H',I,q⟩:=h;exact ⟨σ',H',I.unwish,q⟩
  | cont=>obtain ⟨σ',H',I,q⟩:=h;exact ⟨σ',H',I.unwish,q⟩
  | ret u=>obtain ⟨v,σ',H',I,r,q⟩:=h;exact ⟨v,σ',H',I.unwish,r,q⟩
theorem PSs.nox {st:List Stmt} {t:TS} (h:PSs X.nox st t):PSs X st t:=fun pins s σ H D I hw =>
  wpAny_mono (h pins s σ H D (I.wish _) hw) (fun _ _ q=>q.unwish) fun _ _ z=>False.elim z
end
section
variable {X:Cx} {st:Stmt} {rest:List Stmt} {t u:TS} {e:Expr} {te:TE} {pos:Pos}
def tNext:TS:=fun D σ H=>D.nx σ H
def tSeq (t u:TS):TS:=fun D σ H=>t (D.seq u) σ H
theorem pss_nil:PSs X [] tNext:=fun _ _ σ H _ I h=>wpAny_execs_nil ⟨σ,H,I,h⟩
theorem pss_cons (h1:PS X st t) (h2:PSs X rest u):PSs X (st :: rest) (tSeq t u):=by
  intro pins s σ H D I h
  refine wpAny_execs_cons (thn (h1 pins s σ H (D.seq u) I h) fun f s1 q=>?_)
  cases f with
  | next =>
    obtain ⟨σ',H',I',q⟩:=q
    exact h2 pins s1 σ' H' D I' q
  | ret v=>exact q
  | brk=>exact q
  | cont=>exact q
theorem pss_one (h1:PS X st t):PSs X [st] t:=by
  intro pins s σ H D I h
  refine wpAny_execs_cons (thn (h1 pins s σ H D I h) fun f s1 q=>?_)
  cases f with
  | next=>exact wpAny_execs_nil q
  | ret v=>exact q
  | brk=>exact q
  | cont=>exact q
def tBreak:TS:=fun D σ H=>D.bk σ H
def tCont:TS:=fun D σ H=>D.ct σ H
theorem Inv.quiet {pins:List (Addr×Obj)} {σ:St} {H:Hp} {s:Shared} (I:Inv X pins σ H s):interactive X.env = false:=by simp [interactive,I.ok.kind]
def tDrop (te:TE):TS:=fun D σ H=>te σ H fun _ H1=>D.nx σ H1
theorem ps_expr (he:PE X e te) (hs:swapsWith e none pos.line X.env = pure false:=by rfl):PS X (.Expr e pos) (tDrop te):=by
  intro pins s σ H D I h
  exact wpAny_Expr_any (thn (he pins s σ H _ I h) fun v s1 ⟨x,H1,I1,r1,q1⟩=>⟨σ,H1,I1,q1⟩) I.quiet hs
def tRet (te:TE):TS:=fun D σ H=>te σ H D.rt
theorem ps_ret (he:PE X e te):PS X (.Return (some e) pos) (tRet te):=by
  intro pins s σ H D I h
  exact wpAny_Return_some (thn (he pins s σ H _ I h) fun v s1 ⟨x,H1,I1,r1,q1⟩=>⟨x,σ,H1,I1,r1,q1⟩)
def tRetN:TS:=fun D _ H=>D.rt .non H
def tIfS (c:TT) (t u:TS):TS:=fun D σ H=>c σ H fun b H1=>if b = true then t D σ H1 else u D σ H1
theorem ps_if {c:Expr} {a b:List Stmt} {tc:TT} (hc:PT X c tc) (ha:PSs X a t) (hb:PSs X b u):PS X (.If c a b pos) (tIfS tc t u):=by
  intro pins s σ H D I h
  refine wpAny_If (thn (hc pins s σ H _ I h) fun d s1 ⟨H1,I1,q1⟩=>?_)
  cases d with
  | true=>exact ha pins s1 σ H1 D I1 q1
  | false=>exact hb pins s1 σ H1 D I1 q1
def tNever:TS:=fun _ _ _=>False
theorem ps_never:PS X st tNever:=fun _ _ _ _ _ _ h=>h.elim
end
abbrev TG:=V→St→Hp→(St→Hp→Prop)→Prop
abbrev TGs:=List V→St→Hp→(St→Hp→Prop)→Prop
def PG (X:Cx) (target:Expr) (t:TG):Prop :=
  ∀ (pins:List (Addr×Obj)) (s:Shared) (σ:St) (H:Hp) (v:V) (u:Value) (Q:St→Hp→Prop),Inv X pins σ H s→RelV v u→t v σ H Q →
    wpAny (model X.prog X.w) X.A (assign target X.env u) (fun _ s'=>∃ σ' H',Inv X pins σ' H' s'∧Q σ' H') X.xe s
def PGs (X:Cx) (ts:List Expr) (t:TGs):Prop :=
  ∀ (pins:List (Addr×Obj)) (s:Shared) (σ:St) (H:Hp) (vs:List V) (us:List Value) (Q:St→Hp→Prop),Inv X pins σ H s→Vals vs us→t vs σ H Q →
    wpAny (model X.prog X.w) X.A (assignInOrder ((assignEach ts X.env).map (·.2)) us) (fun _ s'=>∃ σ' H',Inv X pins σ' H' s'∧Q σ' H') X.xe s
abbrev TSet:=V→V→V→Hp→(Hp→Prop)→Prop
def PSet (X:Cx) (t:TSet):Prop :=
  ∀ (pins:List (Addr×Obj)) (s:Shared) (σ:St) (H:Hp) (o i v:V) (ov iv u:Value) (Q:Hp→Prop),Inv X pins σ H s→RelV o ov→RelV i iv→RelV v u→t o i v H Q →
    wpAny (model X.prog X.w) X.A (setItem ov iv u) (fun _ s'=>∃ H',Inv X pins σ H' s'∧Q H') X.xe s
abbrev TIp:=V→V→Hp→VK→Prop
def PIp (X:Cx) (op:Operator) (t:TIp):Prop :=
  ∀ (pins:List (Addr×Obj)) (s:Shared) (σ:St) (H:Hp) (x y:V) (v u:Value) (Q:VK),Inv X pins σ H s→RelV x v→RelV y u→t x y H Q →
    wpAny (model X.prog X.w) X.A (inplaceOp op v u) (EP X pins σ Q) X.xe s
section
variable {X:Cx} {pos:Pos}
def gName (i:Nat):TG:=fun v σ H Q=>Q (σ.set i (some v)) H
theorem pg_name {i:Nat} {x:Str} (hN:X.N.Nodup) (hi:X.N[i]? = some x) (hx:Loc X.env.scope x) (hf:X.fn x = true∨X.env.scope.names.lookup x = some .local:=by first | exact .inl rfl | exact .inr rfl | assumption):PG X (.Name x pos) (gName i):=by
  intro pins s σ H v u Q I r h
  exact wpAny_assign_Name (store_ok I hN hi hx r (fun s' I'=>⟨_,H,I',h⟩) hf)
def gNil:TGs:=fun vs σ H Q=>vs = []∧Q σ H
def gCons (t:TG) (u:TGs):TGs:=fun vs σ H Q=>∃ v r,vs = v :: r∧t v σ H fun σ' H'=>u r σ' H' Q
theorem pgs_nil:PGs X [] gNil:=by
  intro pins s σ H vs us Q I r h
  obtain ⟨e,h⟩:=h
  subst e
  cases r
  exact assignInOrder_nil ⟨σ,H,I,h⟩
theorem pgs_cons {e:Expr} {es:List Expr} {t:TG} {u:TGs} (h1:PG X e t) (h2:PGs X es u)
    (hs:(assignEach (e :: es) X.env).map (·.2) = assign e X.env :: (assignEach es X.env).map (·.2):=by rfl):PGs X (e :: es) (gCons t u):=by
  intro pins s σ H vs us Q I r h
  obtain ⟨v,vr,e1,h⟩:=h
  subst e1
  cases r with
  | cons r rr =>
    rw [hs]
    refine assignInOrder_cons (thn (h1 pins s σ H _ _ _ I r h) fun _ s1 ⟨σ1,H1,I1,q1⟩=>?_)
    exact h2 pins s1 σ1 H1 _ _ Q I1 rr q1
def gTup (K:PySem.W.Frag) (n:Nat) (t:TGs):TG:=fun v σ H Q=>∃ a xs,v = .ref a∧SqT K H a xs∧xs.length = n∧t xs σ H Q
theorem pg_tup {es:List Expr} {k:Nat} {t:TGs} {n:Nat} (hc:X.calm = true) (h:PGs X es t)
    (hn:(assignEach es X.env).length = n:=by rfl) (hst:(assignEach es X.env).findIdx? (·.1) = none:=by rfl):PG X (.Tuple es k pos) (gTup X.K n t):=by
  intro pins s σ H v u Q I r hw
  obtain ⟨a,xs,e1,hq,hl,hw⟩:=hw
  subst e1
  cases r
  obtain ⟨its,rv,ht,hz⟩:=I.tuple hq
  refine assign_Tuple_tuple (I.ok.hd hc) ht (by simp [hn,← hl,rv.length]) hst fun h' hx=>?_
  have I1:Inv X pins σ H { s with heap:=h' }:=I.kept (t':=s.toks) fun b o e=>hx b o (Nat.ne_of_lt (Heap.lt_size e)) e
  exact h pins _ σ H xs _ Q I1 (by simpa using rv) hw
def gSub (to ti:TE) (t:TSet):TG:=fun v σ H Q=>to σ H fun o H1=>ti σ H1 fun i H2=>t o i v H2 fun H3=>Q σ H3
def tAsg (te:TE) (g:TG):TS:=fun D σ H=>te σ H fun x H1=>g x σ H1 D.nx
theorem ps_set {i:Nat} {x:Str} {e:Expr} {te:TE} {pos':Pos} (hN:X.N.Nodup) (hi:X.N[i]? = some x) (hx:Loc X.env.scope x) (he:PE X e te) (hs:swapsWith e (some (.Name x pos')) pos.line X.env = pure false:=by rfl) (hf:X.fn x = true∨X.env.scope.names.lookup x = some .local:=by first | exact .inl rfl | exact .inr rfl | assumption) :
    PS X (.Assign [.Name x pos'] e pos) (tAsg te (gName i)):=by
  intro pins s σ H D I h
  refine wpAny_Assign_Name (thn (he pins s σ H _ I h) fun v s1 ⟨y,H1,I1,r1,q1⟩=>?_) hs
  exact store_ok I1 hN hi hx r1 (fun s2 I2=>⟨_,H1,I2,q1⟩) hf
def tPar (i j:Nat) (ta:TA):TS:=fun D σ H=>ta σ H fun vs H1=>∃ v w,vs = [v,w]∧D.nx ((σ.set i (some v)).set j (some w)) H1
def tAug (i:Nat) (te:TE) (ti:TIp):TS:=fun D σ H=>∃ x,σ[i]? = some (some x)∧te σ H fun y H1=>ti x y H1 fun z H2=>D.nx (σ.set i (some z)) H2
theorem ps_aug {i:Nat} {x:Str} {e:Expr} {te:TE} {op:Operator} {ti:TIp} {pos':Pos} (hN:X.N.Nodup) (hi:X.N[i]? = some x) (hx:Loc X.env.scope x) (he:PE X e te) (ho:PIp X op ti) (hf:X.fn x = true∨X.env.scope.names.lookup x = some .local:=by first | exact .inl rfl | exact .inr rfl | assumption) :
    PS X (.AugAssign (.Name x pos') op e pos) (tAug i te ti):=by
  intro pins s σ H D I h
  obtain ⟨v,e1,h⟩:=h
  obtain ⟨m,hn,hl⟩:=I.loc
  have vis:Vis X.env.scope x:=by rcases hx with k | k;exact .inl k;exact .inr (.inl k)
  obtain ⟨u,r,l⟩:=hl i x v hi e1 vis
  refine wpAny_AugAssign_Name ?_
  have go:wpAny (model X.prog X.w) X.A (eval e X.env) (fun w s₂=>wpAny (model X.prog X.w) X.A (inplaceOp op u w) (fun r s₃=>wpAny (model X.prog X.w) X.A (storeName X.env x r) (fun _=>SP X pins D .next) X.xe s₃) X.xe s₂) X.xe s:=by
    refine thn (he pins s σ H _ I h) fun w s1 ⟨y,H1,I1,r1,q1⟩=>?_
    refine thn (ho pins s1 σ H1 v y u w _ I1 r r1 q1) fun z s2 ⟨zv,H2,I2,r2,q2⟩=>?_
    exact store_ok I2 hN hi hx r2 (fun s3 I3=>⟨_,H2,I3,q2⟩) hf
  rcases l with ⟨hk,hm⟩ | ⟨hk,c,hc,hcell⟩
  · exact wpAny_loadName_local I.ok.kind hk hn hm go
  · rcases hk with hk | hk
    · exact wpAny_loadName_cell I.ok.kind hk hc hcell go
    · rcases hx with k | k
      · have:X.env.scope.names.lookup x = some .free:=hk
        rw [k] at this;cases this
      · have:X.env.scope.names.lookup x = some .free:=hk
        rw [k] at this;cases this
def tAugS (to ti te:TE) (tget:V→V→Hp→VK→Prop) (tip:TIp) (tset:TSet):TS:=fun D σ H=>to σ H fun o H1=>ti σ H1 fun i H2=>tget o i H2 fun x H3=>te σ H3 fun y H4=>tip x y H4 fun z H5=>tset o i z H5 fun H6=>D.nx σ H6
def PGet (X:Cx) (t:V→V→Hp→VK→Prop):Prop :=
  ∀ (pins:List (Addr×Obj)) (s:Shared) (σ:St) (H:Hp) (o i:V) (ov iv:Value) (Q:VK),Inv X pins σ H s→RelV o ov→RelV i iv→t o i H Q →
    wpAny (model X.prog X.w) X.A (getItem ov iv) (EP X pins σ Q) X.xe s
def ipI (f:Int→Int→Int):TIp:=fun x y H Q=>∃ i j,x = .int i∧y = .int j∧Q (.int (f i j)) H
theorem ip_add:PIp X .Add (ipI fun i j=>i + j):=by
  intro pins s σ H x y v u Q I r1 r2 h
  obtain ⟨i,j,e1,e2,q⟩:=h
  subst e1;subst e2
  obtain ⟨t,rfl⟩:=r1
  obtain ⟨t',rfl⟩:=r2
  exact iadd_int ⟨.int _,H,I.tok _,⟨_,rfl⟩,q⟩
theorem ip_sub:PIp X .Sub (ipI fun i j=>i - j):=by
  intro pins s σ H x y v u Q I r1 r2 h
  obtain ⟨i,j,e1,e2,q⟩:=h
  subst e1;subst e2
  obtain ⟨t,rfl⟩:=r1
  obtain ⟨t',rfl⟩:=r2
  exact isub_int ⟨.int _,H,I.tok _,⟨_,rfl⟩,q⟩
end
section
variable {X:Cx} {pos:Pos}
def tWhile (c:TT) (tb:TS):TS:=fun D σ H=>∃ W:Nat→St→Hp→Prop,(∃ m,W m σ H)∧∀ m σ H,W m σ H →
  c σ H fun b H1=>if b = true then ∃ N:St→Hp→Prop,(∀ σ' H',N σ' H'→∃ m',m' < m∧W m' σ' H')∧tb (D.loop N) σ H1 else D.nx σ H1
theorem ps_while {c:Expr} {body:List Stmt} {tc:TT} {tb:TS} (hp:PassesOwn (model X.prog X.w) X.A X.env X.xe) (hc:PT X c tc) (hb:PSs X body tb):PS X (.While c body [] pos) (tWhile tc tb):=by
  intro pins s σ H D I h
  obtain ⟨W,⟨m0,w0⟩,turn⟩:=h
  refine wpAny_While (codeAny_whileLoop (fun n s'=>∃ σ' H',Inv X pins σ' H' s'∧W n σ' H') ?_ m0 ⟨σ,H,I,w0⟩)
  rintro n s1 ⟨σ1,H1,I1,w1⟩
  refine wpAny_passesOwn hp (thn (hc pins s1 σ1 H1 _ I1 (turn n σ1 H1 w1)) fun b s2 ⟨H2,I2,q2⟩=>?_)
  cases b with
  | true =>
    obtain ⟨N,hN,q2⟩:=q2
    rw [if_pos rfl]
    refine wpAny_passesOwn hp (thn (hb pins s2 σ1 H2 _ I2 q2) fun f s3 q3=>?_)
    cases f with
    | next =>
      obtain ⟨σ3,H3,I3,n3⟩:=q3
      obtain ⟨m',hm,w3⟩:=hN σ3 H3 n3
      exact ⟨m',hm,σ3,H3,I3,w3⟩
    | cont =>
      obtain ⟨σ3,H3,I3,n3⟩:=q3
      obtain ⟨m',hm,w3⟩:=hN σ3 H3 n3
      exact ⟨m',hm,σ3,H3,I3,w3⟩
    | brk=>exact q3
    | ret v=>exact q3
  | false =>
    rw [if_neg Bool.false_ne_true]
    exact wpAny_execs_nil ⟨σ1,H2,I2,q2⟩
end
structure It where
  go:Nat→Hp→Prop
  yld:Nat→Hp→V→Hp→Prop
  stop:Nat→Hp→Prop
def FpOk (X:Cx) (pins:List (Addr×Obj)) (H:Hp) (b:Addr):Prop :=
  H b = none∧b≠X.env.locals∧b∉X.fs∧(b∈X.ex∨X.s₀.heap.objs.size≤b)∧(∀ x c,X.env.cells.lookup x = some c→c≠b)∧∀ p∈X.pn ++ pins,p.1≠b
theorem Inv.fpOk {X:Cx} {pins:List (Addr×Obj)} {σ:St} {H H':Hp} {s:Shared} {b:Addr} (I:Inv X pins σ H s) (hb:s.heap.objs.size≤b) (hn:H' b = none):FpOk X pins H' b:=by
  refine ⟨hn,Nat.ne_of_gt (Nat.lt_of_lt_of_le I.lt hb),I.nofs hb,.inr (Nat.le_trans I.sz hb),fun x c e z=>?_,fun p hp z=>?_⟩
  · obtain ⟨v,q⟩:=I.cell x c e
    exact absurd (Nat.lt_of_lt_of_le q.lt (by rw [z];exact hb)) (Nat.lt_irrefl _)
  · exact absurd (Nat.lt_of_lt_of_le (Heap.lt_size (I.pin p hp).1) (by rw [z];exact hb)) (Nat.lt_irrefl _)
structure Turn (P:Program) (w:World) (K:PySem.W.Frag) (tg:Expr) (J:It) (fp:List Addr) (it:Addr) (tn:Nat→Heap→Prop):Prop where
  mem:it∈fp
  obj:∀ i h,tn i h→∀ b∈fp,∃ o,h.get? b = some o∧∀ v,o.data≠.cell v
  keep:∀ i h h',tn i h→(∀ b∈fp,∀ o,h.get? b = some o→h'.get? b = some o)→tn i h'
  item:∀ (X:Cx),X.prog = P→X.w = w→X.K = K→X.calm = true→∀ (i:Nat) (pins:List (Addr×Obj)) (s:Shared) (σ:St) (H:Hp) (E:Value→Shared→Prop),Inv X pins σ H s→(∀ b∈fp,FpOk X pins H b)→tn i s.heap→J.go i H →
    wpAny (model P w) X.A (pyNext (.ref it)) (fun r s1=>∃ u,r = some u ∧
      wpAny (model P w) X.A (letOwnedTupleGo tg (.ref it) u) (fun _ s2=>∃ x H',Inv X pins σ H' s2∧RelV x u∧J.yld i H x H'∧tn (i + 1) s2.heap∧∀ b∈fp,H' b = none) E s1) E s
  done:∀ (X:Cx),X.prog = P→X.w = w→X.K = K→X.calm = true→∀ (i:Nat) (pins:List (Addr×Obj)) (s:Shared) (σ:St) (H:Hp) (E:Value→Shared→Prop),Inv X pins σ H s→(∀ b∈fp,FpOk X pins H b)→tn i s.heap→J.stop i H →
    wpAny (model P w) X.A (pyNext (.ref it)) (fun r s1=>r = none∧Inv X pins σ H s1) E s
  self:∀ (A:Around) (i:Nat) (s:Shared) (Q:Value→Shared→Prop) (E:Value→Shared→Prop),tn i s.heap→Q (.ref it) s→wpAny (model P w) A (pyIter (.ref it)) Q E s
abbrev TI:=St→Hp→(It→Hp→Prop)→Prop
def PIE (X:Cx) (pins:List (Addr×Obj)) (σ:St) (tg:Expr) (R:It→Hp→Prop) (itv:Value) (s2:Shared):Prop :=
  ∃ (it:Addr) (fp:List Addr) (tn:Nat→Heap→Prop) (J:It) (H':Hp),itv = .ref it∧Inv X pins σ H' s2∧Turn X.prog X.w X.K tg J fp it tn∧tn 0 s2.heap∧(∀ b∈fp,FpOk X pins H' b)∧R J H'
def PI (X:Cx) (tg iter:Expr) (wi:TI):Prop :=
  ∀ (pins:List (Addr×Obj)) (s:Shared) (σ:St) (H:Hp) (R:It→Hp→Prop),Inv X pins σ H s→wi σ H R →
    wpAny (model X.prog X.w) X.A (eval iter X.env) (fun v s1=>wpAny (model X.prog X.w) X.A (pyIter v) (PIE X pins σ tg R) X.xe s1) X.xe s
theorem go_of {M:Model} {A:Around} {E:Value→Shared→Prop} {s:Shared} {tg:Expr} {it:Addr} {u:Value} {o:Obj} {n:String} {vs:Array Value} {Q:Unit→Shared→Prop} (ho:s.heap.get? it = some o) (hc:o.cls = .type n) (hd:o.data = .fields vs)
    (hn:["enumerate","zip","dict_itemiterator","dict_reverseitemiterator","odict_iterator","itertools.zip_longest","itertools.pairwise"].contains n = false) (hQ:Q () s):wpAny M A (letOwnedTupleGo tg (.ref it) u) Q E s:=by
  unfold letOwnedTupleGo
  cases tg <;> first
    | exact wpAny_pure hQ
    | (cases u <;> first
        | exact wpAny_pure hQ
        | (refine wpAny_bind (wpAny_load ho ?_)
           rw [hc,hd]
           show wpAny M A (if (["enumerate","zip","dict_itemiterator","dict_reverseitemiterator","odict_iterator","itertools.zip_longest","itertools.pairwise"].contains n && vs[0]? == some (rawInt _)) = true then _ else _) Q E s
           rw [if_neg (by intro h;rw [hn,Bool.false_and] at h;cases h)]
           exact wpAny_pure hQ))
def Itl (K:PySem.W.Frag) (a:Addr):It :=
  ⟨fun i H=>∃ xs x,SqL K H a xs∧xs[i]? = some x,fun i H x H'=>H' = H∧∀ xs,SqL K H a xs→xs[i]? = some x,fun i H=>∃ xs,SqL K H a xs∧xs.length≤i⟩
def Itt (K:PySem.W.Frag) (a:Addr):It :=
  ⟨fun i H=>∃ xs x,SqT K H a xs∧xs[i]? = some x,fun i H x H'=>H' = H∧∀ xs,SqT K H a xs→xs[i]? = some x,fun i H=>∃ xs,SqT K H a xs∧xs.length≤i⟩
def Itr (lo:Int) (n:Nat):It:=⟨fun i _=>i < n,fun i H x H'=>H' = H∧x = .int (lo + i),fun i _=>n≤i⟩
theorem turn_list {P:Program} {w:World} {K:PySem.W.Frag} {tg:Expr} (a it:Addr):Turn P w K tg (Itl K a) [it] it (fun i h=>h.IsListIter it a i) where
  mem:=by simp
  obj:=fun i h st b hb=>by
    have e:b = it:=by simpa using hb
    subst e
    obtain ⟨o,e,c,d⟩:=st
    exact ⟨o,e,fun v z=>by rw [d] at z;cases z⟩
  keep:=fun i h h' st k=>st.at fun o e=>k it (by simp) o e
  item:=by
    intro X hP hw hK hc i pins s σ H E I hf st hg
    subst hP hw hK
    obtain ⟨xs,x,hq,hx⟩:=hg
    obtain ⟨its,rv,p,hz⟩:=I.list hq
    obtain ⟨u,hu,ru⟩:=rv.get hx
    obtain ⟨f0,f1,f2,f3,f4,f5⟩:=hf it (by simp)
    refine wpAny_pyNext_list_item st p.isList (x:=u) (by simpa using hu) fun h' st' sb=>?_
    have I1:Inv X pins σ H { s with heap:=h' }:=I.turned (t':=s.toks) (fun b o hb e=>(sb.2 b hb).trans e) f0 f1 f3 f4 f5
    obtain ⟨o,e,c,d⟩:=id st'
    exact ⟨u,rfl,go_of (s:={ s with heap:=h' }) e c d (by decide) ⟨x,H,I1,ru,⟨rfl,fun ys hy=>by rw [I.list_inj hy hq];exact hx⟩,st',fun b hb=>(hf b hb).1⟩⟩
  done:=by
    intro X hP hw hK hc i pins s σ H E I hf st hg
    subst hP hw hK
    obtain ⟨xs,hq,hx⟩:=hg
    obtain ⟨its,rv,p,hz⟩:=I.list hq
    obtain ⟨f0,f1,f2,f3,f4,f5⟩:=hf it (by simp)
    have hl:=rv.length
    exact wpAny_pyNext_list_end (I.ok.hd hc) st p.isList (by simp;omega) fun h' eb=>⟨rfl,I.turned (t':=s.toks) (fun b o hb e=>eb b o hb e) f0 f1 f3 f4 f5⟩
  self:=fun _ _ _ _ _ st h=>wpAny_pyIter_listiter st h
theorem turn_tuple {P:Program} {w:World} {K:PySem.W.Frag} {tg:Expr} (a it:Addr):Turn P w K tg (Itt K a) [it] it (fun i h=>h.IsTupleIter it a i) where
  mem:=by simp
  obj:=fun i h st b hb=>by
    have e:b = it:=by simpa using hb
    subst e
    obtain ⟨o,e,c,d⟩:=st
    exact ⟨o,e,fun v z=>by rw [d] at z;cases z⟩
  keep:=fun i h h' st k=>st.at fun o e=>k it (by simp) o e
  item:=by
    intro X hP hw hK hc i pins s σ H E I hf st hg
    subst hP hw hK
    obtain ⟨xs,x,hq,hx⟩:=hg
    obtain ⟨its,rv,p,hz⟩:=I.tuple hq
    obtain ⟨u,hu,ru⟩:=rv.get hx
    obtain ⟨f0,f1,f2,f3,f4,f5⟩:=hf it (by simp)
    refine wpAny_pyNext_tuple_item st (show s.heap.IsTuple a its.toArray from p) (x:=u) (by simpa using hu) fun h' st' sb=>?_
    have I1:Inv X pins σ H { s with heap:=h' }:=I.turned (t':=s.toks) (fun b o hb e=>(sb.2 b hb).trans e) f0 f1 f3 f4 f5
    obtain ⟨o,e,c,d⟩:=id st'
    exact ⟨u,rfl,go_of (s:={ s with heap:=h' }) e c d (by decide) ⟨x,H,I1,ru,⟨rfl,fun ys hy=>by rw [I.tuple_inj hy hq];exact hx⟩,st',fun b hb=>(hf b hb).1⟩⟩
  done:=by
    intro X hP hw hK hc i pins s σ H E I hf st hg
    subst hP hw hK
    obtain ⟨xs,hq,hx⟩:=hg
    obtain ⟨its,rv,p,hz⟩:=I.tuple hq
    obtain ⟨f0,f1,f2,f3,f4,f5⟩:=hf it (by simp)
    have hl:=rv.length
    exact wpAny_pyNext_tuple_end (I.ok.hd hc) st (show s.heap.IsTuple a its.toArray from p) (by simp;omega) fun h' eb=>⟨rfl,I.turned (t':=s.toks) (fun b o hb e=>eb b o hb e) f0 f1 f3 f4 f5⟩
  self:=fun _ _ _ _ _ st h=>wpAny_pyIter_tupleiter st h
theorem turn_range {P:Program} {w:World} {K:PySem.W.Frag} {tg:Expr} (it:Addr) (lo:Int) (n:Nat):Turn P w K tg (Itr lo n) [it] it (fun i h=>IsRangeIter h it (lo + (i:Nat) * 1) ((n:Int) - (i:Nat)) 1) where
  mem:=by simp
  obj:=fun i h st b hb=>by
    have e:b = it:=by simpa using hb
    subst e
    exact ⟨_,st,fun v z=>by
      have z':Data.fields _ = Data.cell v:=z
      cases z'⟩
  keep:=fun i h h' st k=>k it (by simp) _ st
  item:=by
    intro X hP hw hK hc i pins s σ H E I hf st hg
    subst hP hw hK
    obtain ⟨f0,f1,f2,f3,f4,f5⟩:=hf it (by simp)
    have W:=Walks.range (prog:=X.prog) (w:=X.w) (I.ok.hd hc) it lo 1 n
    refine W.item i s _ _ hg st fun v h' tk hv st' kk=>?_
    obtain ⟨t,rfl⟩:=hv
    have I1:Inv X pins σ H { s with heap:=h',toks:=tk }:=I.turned (fun b o hb e=>kk b o (by simpa using hb) e) f0 f1 f3 f4 f5
    refine ⟨_,rfl,go_of (s:={ s with heap:=h',toks:=tk }) (n:="range_iterator") st' rfl rfl (by decide) ⟨.int (lo + i),H,I1,⟨t,?_⟩,⟨rfl,rfl⟩,st',fun b hb=>(hf b hb).1⟩⟩
    rw [Int.mul_one]
  done:=by
    intro X hP hw hK hc i pins s σ H E I hf st hg
    subst hP hw hK
    obtain ⟨f0,f1,f2,f3,f4,f5⟩:=hf it (by simp)
    exact wpAny_pyNext_range_end (I.ok.hd hc) st (by have:n≤i:=hg;omega) fun h' eb=>⟨rfl,I.turned (t':=s.toks) (fun b o hb e=>eb b o hb e) f0 f1 f3 f4 f5⟩
  self:=fun _ _ _ _ _ st h=>wpAny_pyIter_rangeiter st h
end L2
namespace L2
open PySem PySem.Spec PyProof.Rows
section
variable {X:Cx} {tg:Expr}
def iList (K:PySem.W.Frag) (tl:TE):TI:=fun σ H R=>tl σ H fun x H1=>∃ a,x = .ref a∧(∃ xs,SqL K H1 a xs)∧R (Itl K a) H1
def iTup (K:PySem.W.Frag) (tl:TE):TI:=fun σ H R=>tl σ H fun x H1=>∃ a,x = .ref a∧(∃ xs,SqT K H1 a xs)∧R (Itt K a) H1
theorem pi_list {l:Expr} {tl:TE} (hl:PE X l tl):PI X tg l (iList X.K tl):=by
  intro pins s σ H R I h
  refine thn (hl pins s σ H _ I h) fun v s1 ⟨x,H1,I1,r1,q1⟩=>?_
  obtain ⟨a,e,⟨xs,hq⟩,q⟩:=q1
  subst e
  cases r1
  obtain ⟨its,rv,p,hz⟩:=I1.list hq
  refine wpAny_pyIter_list p.isList ?_
  refine ⟨s1.heap.objs.size,[s1.heap.objs.size],_,_,H1,rfl,I1.kept (t':=s1.toks) fun b o e=>Heap.get?_push_of_some _ e,turn_list a _,⟨_,Heap.get?_push_size _ rfl,rfl,rfl⟩,fun b hb=>?_,q⟩
  have e:b = s1.heap.objs.size:=by simpa using hb
  subst e
  exact I1.fpOk (Nat.le_refl _) (I1.hok.fresh (Nat.le_refl _))
theorem pi_tup {l:Expr} {tl:TE} (hl:PE X l tl):PI X tg l (iTup X.K tl):=by
  intro pins s σ H R I h
  refine thn (hl pins s σ H _ I h) fun v s1 ⟨x,H1,I1,r1,q1⟩=>?_
  obtain ⟨a,e,⟨xs,hq⟩,q⟩:=q1
  subst e
  cases r1
  obtain ⟨its,rv,p,hz⟩:=I1.tuple hq
  refine wpAny_pyIter_tuple (show s1.heap.IsTuple a its.toArray from p) ?_
  refine ⟨s1.heap.objs.size,[s1.heap.objs.size],_,_,H1,rfl,I1.kept (t':=s1.toks) fun b o e=>Heap.get?_push_of_some _ e,turn_tuple a _,⟨_,Heap.get?_push_size _ rfl,rfl,rfl⟩,fun b hb=>?_,q⟩
  have e:b = s1.heap.objs.size:=by simpa using hb
  subst e
  exact I1.fpOk (Nat.le_refl _) (I1.hok.fresh (Nat.le_refl _))
theorem range_it {pins:List (Addr×Obj)} {σ:St} {H:Hp} {s:Shared} {R:It→Hp→Prop} {E:Value→Shared→Prop} {lo hi:Int} {t u v:Tok} {tk:Nat} (I:Inv X pins σ H s) (h1:-(2 ^ 62)≤lo) (h2:lo < 2 ^ 62) (h3:-(2 ^ 62)≤hi) (h4:hi < 2 ^ 62)
    (q:R (Itr lo (hi - lo).toNat) H):wpAny (model X.prog X.w) X.A (pyIter (.ref s.heap.objs.size)) (PIE X pins σ tg R) E { s with heap:=s.heap.push { cls:=.type "range",data:=.fields #[.int lo t,.int hi u,.int 1 v] },toks:=tk }:=by
  refine wpAny_pyIter_range (IsRange.new ..) (small_one h1 h2 h3 h4) ?_
  have I1:Inv X pins σ H { s with heap:=s.heap.push { cls:=.type "range",data:=.fields #[.int lo t,.int hi u,.int 1 v] },toks:=tk }:=I.kept fun b o e=>Heap.get?_push_of_some _ e
  refine ⟨(s.heap.push { cls:=.type "range",data:=.fields #[.int lo t,.int hi u,.int 1 v] }).objs.size,[(s.heap.push { cls:=.type "range",data:=.fields #[.int lo t,.int hi u,.int 1 v] }).objs.size],_,_,H,rfl,
    I1.kept (t':=tk) fun b o e=>Heap.get?_push_of_some _ e,turn_range _ lo (hi - lo).toNat,?_,fun b hb=>?_,q⟩
  · have e1:lo + ((0:Nat):Int) * 1 = lo:=by simp
    have e2:(((hi - lo).toNat:Nat):Int) - ((0:Nat):Int) = Builtin.Range.rangeSize lo hi 1:=by rw [rangeSize_one];split <;> omega
    show IsRangeIter _ _ (lo + ((0:Nat):Int) * 1) ((((hi - lo).toNat:Nat):Int) - ((0:Nat):Int)) 1
    rw [e1,e2]
    exact Heap.get?_push_size _ rfl
  · have e:b = (s.heap.push { cls:=.type "range",data:=.fields #[.int lo t,.int hi u,.int 1 v] }).objs.size:=by simpa using hb
    subst e
    exact I1.fpOk (Nat.le_refl _) (I1.hok.fresh (Nat.le_refl _))
def iRng1 (ta:TA):TI:=fun σ H R=>ta σ H fun vs H1=>∃ j:Int,vs = [.int j]∧-(2 ^ 62)≤j∧j < 2 ^ 62∧R (Itr 0 j.toNat) H1
def iRng2 (ta:TA):TI:=fun σ H R=>ta σ H fun vs H1=>∃ i j:Int,vs = [.int i,.int j]∧(-(2 ^ 62)≤i∧i < 2 ^ 62∧-(2 ^ 62)≤j∧j < 2 ^ 62)∧R (Itr i (j - i).toNat) H1
theorem pi_range1 {a:Expr} {ta:TA} {p pos:Pos} (hg:Gl X "range") (hm:X.mg "range" = none) (ha:PA X [a] ta) (hs:starEach [a] X.env = [(false,eval a X.env)]:=by rfl):PI X tg (.Call (.Name "range" p) [a] [] pos) (iRng1 ta):=by
  intro pins s σ H R I h
  refine Call_ (ld_blt I hg hm boot_range (PyProof.Rows.callWith_type1 (thn (ha pos pins s σ H _ I h) fun us s1 ⟨vs,H1,I1,r1,q1⟩=>?_) hs rfl))
  obtain ⟨j,e,q1,q2,q⟩:=q1
  subst e
  cases r1 with
  | cons r rr =>
    cases rr
    obtain ⟨t,rfl⟩:=r
    exact call_range_1 (range_it I1 (by omega) (by omega) q1 q2 (by simpa using q))
theorem pi_range2 {a b:Expr} {ta:TA} {p pos:Pos} (hg:Gl X "range") (hm:X.mg "range" = none) (ha:PA X [a,b] ta) (hs:starEach [a,b] X.env = [(false,eval a X.env),(false,eval b X.env)]:=by rfl) (hs2:starEach [b] X.env = [(false,eval b X.env)]:=by rfl) :
    PI X tg (.Call (.Name "range" p) [a,b] [] pos) (iRng2 ta):=by
  intro pins s σ H R I h
  refine Call_ (ld_blt I hg hm boot_range (PyProof.Rows.callWith_type1 (thn (ha pos pins s σ H _ I h) fun us s1 ⟨vs,H1,I1,r1,q1⟩=>?_) (by rw [hs,hs2]) (by rw [hs2];rfl)))
  obtain ⟨i,j,e,⟨q1,q2,q3,q4⟩,q⟩:=q1
  subst e
  cases r1 with
  | cons r rr =>
    cases rr with
    | cons r' rr =>
      cases rr
      obtain ⟨t,rfl⟩:=r
      obtain ⟨t',rfl⟩:=r'
      exact call_range_2 (range_it I1 q1 q2 q3 q4 q)
def tFor (wi:TI) (g:TG) (tb:TS):TS:=fun D σ H=>wi σ H fun J H1=>∃ W:Nat→Nat→St→Hp→Prop,(∃ m,W 0 m σ H1)∧∀ i m σ H,W i m σ H →
  (J.stop i H∧D.nx σ H)∨(J.go i H∧∃ N:St→Hp→Prop,(∀ σ' H',N σ' H'→∃ m',m' < m∧W (i + 1) m' σ' H')∧∀ x H',J.yld i H x H'→g x σ H' fun σ2 H2=>tb (D.loop N) σ2 H2)
def pinsAt (fp:List Addr) (h:Heap):List (Addr×Obj):=fp.filterMap fun b=>(h.get? b).map fun o=>(b,o)
theorem mem_pinsAt {fp:List Addr} {h:Heap} {b:Addr} {o:Obj} (hb:b∈fp) (e:h.get? b = some o):(b,o)∈pinsAt fp h:=List.mem_filterMap.mpr ⟨b,hb,by rw [e];rfl⟩
theorem of_pinsAt {fp:List Addr} {h:Heap} {p:Addr×Obj} (hp:p∈pinsAt fp h):p.1∈fp∧h.get? p.1 = some p.2:=by
  obtain ⟨b,hb,e⟩:=List.mem_filterMap.mp hp
  cases q:h.get? b with
  | none=>rw [q] at e;cases e
  | some o =>
    rw [q] at e
    have e':(b,o) = p:=Option.some.inj e
    subst e'
    exact ⟨hb,q⟩
theorem Inv.pinned {pins:List (Addr×Obj)} {σ:St} {H:Hp} {s:Shared} {fp:List Addr} (I:Inv X pins σ H s) (hf:∀ b∈fp,FpOk X pins H b) (ho:∀ b∈fp,∃ o,s.heap.get? b = some o∧∀ v,o.data≠.cell v):Inv X (pins ++ pinsAt fp s.heap) σ H s :=
  I.pins_of fun p hp=>(List.mem_append.mp hp).elim (fun z=>I.pin p (List.mem_append_right _ z)) fun z=>by
    obtain ⟨hb,e⟩:=of_pinsAt z
    obtain ⟨f0,f1,f2,_⟩:=hf p.1 hb
    obtain ⟨o,e',d⟩:=ho p.1 hb
    rw [e] at e';cases e'
    exact ⟨e,f0,f1,f2,d⟩
theorem Inv.unpinned {pins pl:List (Addr×Obj)} {σ:St} {H:Hp} {s:Shared} (I:Inv X (pins ++ pl) σ H s):Inv X pins σ H s:=I.pins_of fun p hp=>I.pin p (List.mem_append_right _ (List.mem_append_left _ hp))
theorem ps_for {iter:Expr} {body:List Stmt} {wi:TI} {g:TG} {tb:TS} {pos:Pos} (hp:PassesOwn (model X.prog X.w) X.A X.env X.xe) (hc:X.calm = true) (hi:PI X tg iter wi) (hg:PG X tg g) (hb:PSs X body tb)
    (hs:∀ x,foldedSetIterable iter X.env x = pure x:=by intro _;rfl):PS X (.For tg iter body [] pos) (tFor wi g tb):=by
  intro pins s σ H D I h
  refine wpAny_For (thn (hi pins s σ H _ I h) fun v s1 h1=>thn h1 fun itv s2 h2=>?_) hs
  obtain ⟨it,fp,tn,J,H2,e,I2,T,st2,f2,W,⟨m0,w0⟩,turn⟩:=h2
  subst e
  have stat:∀ {H':Hp},(∀ b∈fp,H' b = none)→∀ b∈fp,FpOk X pins H' b:=fun hn b hb=>⟨hn b hb,(f2 b hb).2⟩
  refine codeAny_forLoop_any (fun n s'=>∃ i σ' H',Inv X pins σ' H' s'∧tn i s'.heap∧(∀ b∈fp,H' b = none)∧W i n σ' H') ?_ m0 ⟨0,σ,H2,I2,st2,fun b hb=>(f2 b hb).1,w0⟩
  rintro n s3 ⟨i,σ3,H3,I3,st3,fr3,w3⟩
  rcases turn i n σ3 H3 w3 with ⟨stop,qn⟩ | ⟨go,N,hN,step⟩
  · refine wpAny_passesOwn hp (thn (T.done X rfl rfl rfl hc i pins s3 σ3 H3 X.xe I3 (stat fr3) st3 stop) fun r s4 ⟨hr,I4⟩=>?_)
    subst hr
    exact wpAny_execs_nil ⟨σ3,H3,I4,qn⟩
  · refine wpAny_passesOwn hp (thn (T.item X rfl rfl rfl hc i pins s3 σ3 H3 X.xe I3 (stat fr3) st3 go) fun r s4 ⟨u,hr,h4⟩=>?_)
    subst hr
    refine wpAny_passesOwn hp (thn h4 fun _ s5 ⟨x,H5,I5,r5,y5,st5,fr5⟩=>?_)
    have I5':=I5.pinned (stat fr5) (T.obj _ _ st5)
    refine wpAny_passesOwn hp (thn (hg _ s5 σ3 H5 x u _ I5' r5 (step x H5 y5)) fun _ s6 ⟨σ6,H6,I6,q6⟩=>?_)
    refine wpAny_passesOwn hp (thn (hb _ s6 σ6 H6 _ I6 q6) fun f s7 q7=>?_)
    have again:∀ {σ7:St} {H7:Hp},Inv X (pins ++ pinsAt fp s5.heap) σ7 H7 s7→N σ7 H7→∃ m,m < n∧∃ i σ' H',Inv X pins σ' H' s7∧tn i s7.heap∧(∀ b∈fp,H' b = none)∧W i m σ' H':=fun {σ7 H7} I7 n7=>by
      obtain ⟨m',hm,w7⟩:=hN σ7 H7 n7
      refine ⟨m',hm,i + 1,σ7,H7,I7.unpinned,T.keep _ _ _ st5 fun b hb o e=>(I7.pin (b,o) (List.mem_append_right _ (List.mem_append_right _ (mem_pinsAt hb e)))).1,fun b hb=>?_,w7⟩
      obtain ⟨o,e,d⟩:=T.obj _ _ st5 b hb
      exact (I7.pin (b,o) (List.mem_append_right _ (List.mem_append_right _ (mem_pinsAt hb e)))).2.1
    cases f with
    | next=>obtain ⟨σ7,H7,I7,n7⟩:=q7;exact again I7 n7
    | cont=>obtain ⟨σ7,H7,I7,n7⟩:=q7;exact again I7 n7
    | brk=>obtain ⟨σ7,H7,I7,q7⟩:=q7;exact ⟨σ7,H7,I7.unpinned,q7⟩
    | ret v=>obtain ⟨x7,σ7,H7,I7,r7,q7⟩:=q7;exact ⟨x7,σ7,H7,I7.unpinned,r7,q7⟩
end
theorem for_list {K:PySem.W.Frag} {a:Addr} {xs:List V} {g:TG} {tb:TS} {D:Ends} {σ:St} {H:Hp} (Pv:Nat→St→Hp→Prop) (h0:Pv 0 σ H) (hl:∀ i σ H,i≤xs.length→Pv i σ H→SqL K H a xs)
    (hs:∀ i x σ H,xs[i]? = some x→Pv i σ H→g x σ H fun σ2 H2=>tb (D.loop (Pv (i + 1))) σ2 H2) (hd:∀ σ H,Pv xs.length σ H→D.nx σ H) :
    ∃ W:Nat→Nat→St→Hp→Prop,(∃ m,W 0 m σ H)∧∀ i m σ H,W i m σ H →
      ((Itl K a).stop i H∧D.nx σ H)∨((Itl K a).go i H∧∃ N:St→Hp→Prop,(∀ σ' H',N σ' H'→∃ m',m' < m∧W (i + 1) m' σ' H')∧∀ x H',(Itl K a).yld i H x H'→g x σ H' fun σ2 H2=>tb (D.loop N) σ2 H2):=by
  refine ⟨fun i m σ H=>m = xs.length - i∧i≤xs.length∧Pv i σ H,⟨xs.length,by simp,Nat.zero_le _,h0⟩,?_⟩
  rintro i m σ H ⟨rfl,hi,p⟩
  have q:=hl i σ H hi p
  by_cases hlt:i < xs.length
  · refine .inr ⟨⟨xs,xs[i],q,by simp [hlt]⟩,Pv (i + 1),fun σ' H' p'=>⟨xs.length - (i + 1),by omega,rfl,hlt,p'⟩,fun x H' y=>?_⟩
    obtain ⟨e,y⟩:=y
    subst e
    exact hs i x σ _ (y xs q) p
  · have e:i = xs.length:=by omega
    subst e
    exact .inl ⟨⟨xs,q,Nat.le_refl _⟩,hd σ H p⟩
theorem for_tup {K:PySem.W.Frag} {a:Addr} {xs:List V} {g:TG} {tb:TS} {D:Ends} {σ:St} {H:Hp} (Pv:Nat→St→Hp→Prop) (h0:Pv 0 σ H) (hl:∀ i σ H,i≤xs.length→Pv i σ H→SqT K H a xs)
    (hs:∀ i x σ H,xs[i]? = some x→Pv i σ H→g x σ H fun σ2 H2=>tb (D.loop (Pv (i + 1))) σ2 H2) (hd:∀ σ H,Pv xs.length σ H→D.nx σ H) :
    ∃ W:Nat→Nat→St→Hp→Prop,(∃ m,W 0 m σ H)∧∀ i m σ H,W i m σ H →
      ((Itt K a).stop i H∧D.nx σ H)∨((Itt K a).go i H∧∃ N:St→Hp→Prop,(∀ σ' H',N σ' H'→∃ m',m' < m∧W (i + 1) m' σ' H')∧∀ x H',(Itt K a).yld i H x H'→g x σ H' fun σ2 H2=>tb (D.loop N) σ2 H2):=by
  refine ⟨fun i m σ H=>m = xs.length - i∧i≤xs.length∧Pv i σ H,⟨xs.length,by simp,Nat.zero_le _,h0⟩,?_⟩
  rintro i m σ H ⟨rfl,hi,p⟩
  have q:=hl i σ H hi p
  by_cases hlt:i < xs.length
  · refine .inr ⟨⟨xs,xs[i],q,by simp [hlt]⟩,Pv (i + 1),fun σ' H' p'=>⟨xs.length - (i + 1),by omega,rfl,hlt,p'⟩,fun x H' y=>?_⟩
    obtain ⟨e,y⟩:=y
    subst e
    exact hs i x σ _ (y xs q) p
  · have e:i = xs.length:=by omega
    subst e
    exact .inl ⟨⟨xs,q,Nat.le_refl _⟩,hd σ H p⟩
theorem for_range {lo:Int} {n:Nat} {g:TG} {tb:TS} {D:Ends} {σ:St} {H:Hp} (Pv:Nat→St→Hp→Prop) (h0:Pv 0 σ H)
    (hs:∀ i σ H,i < n→Pv i σ H→g (.int (lo + i)) σ H fun σ2 H2=>tb (D.loop (Pv (i + 1))) σ2 H2) (hd:∀ σ H,Pv n σ H→D.nx σ H) :
    ∃ W:Nat→Nat→St→Hp→Prop,(∃ m,W 0 m σ H)∧∀ i m σ H,W i m σ H →
      ((Itr lo n).stop i H∧D.nx σ H)∨((Itr lo n).go i H∧∃ N:St→Hp→Prop,(∀ σ' H',N σ' H'→∃ m',m' < m∧W (i + 1) m' σ' H')∧∀ x H',(Itr lo n).yld i H x H'→g x σ H' fun σ2 H2=>tb (D.loop N) σ2 H2):=by
  refine ⟨fun i m σ H=>m = n - i∧i≤n∧Pv i σ H,⟨n,by simp,Nat.zero_le _,h0⟩,?_⟩
  rintro i m σ H ⟨rfl,hi,p⟩
  by_cases hlt:i < n
  · refine .inr ⟨hlt,Pv (i + 1),fun σ' H' p'=>⟨n - (i + 1),by omega,rfl,hlt,p'⟩,fun x H' y=>?_⟩
    obtain ⟨e,y⟩:=y
    subst e y
    exact hs i σ _ hlt p
  · have e:i = n:=by omega
    subst e
    exact .inl ⟨Nat.le_refl _,hd σ H p⟩
end L2
namespace L2
open PySem PySem.Spec PyProof.Rows
abbrev R2:=V→V→Hp→VK→Prop
def OpR (X:Cx) (f:Value→Value→Sem Value) (r:R2):Prop :=
  ∀ (pins:List (Addr×Obj)) (s:Shared) (σ:St) (H:Hp) (x y:V) (v u:Value) (Q:VK),Inv X pins σ H s→RelV x v→RelV y u→r x y H Q →
    wpAny (model X.prog X.w) X.A (f v u) (EP X pins σ Q) X.xe s
def UnR (X:Cx) (f:Value→Sem Value) (r:V→Hp→VK→Prop):Prop :=
  ∀ (pins:List (Addr×Obj)) (s:Shared) (σ:St) (H:Hp) (x:V) (v:Value) (Q:VK),Inv X pins σ H s→RelV x v→r x H Q →
    wpAny (model X.prog X.w) X.A (f v) (EP X pins σ Q) X.xe s
def CallR (X:Cx) (f:Value) (r:List V→Hp→VK→Prop):Prop :=
  ∀ (pins:List (Addr×Obj)) (s:Shared) (σ:St) (H:Hp) (xs:List V) (us:List Value) (Q:VK),Inv X pins σ H s→Vals xs us→r xs H Q →
    wpAny (model X.prog X.w) X.A (call f us) (EP X pins σ Q) X.xe s
def TruR (X:Cx) (r:V→Hp→(Bool→Hp→Prop)→Prop):Prop :=
  ∀ (pins:List (Addr×Obj)) (s:Shared) (σ:St) (H:Hp) (x:V) (v:Value) (Q:Bool→Hp→Prop),Inv X pins σ H s→RelV x v→r x H Q →
    wpAny (model X.prog X.w) X.A (truthy v) (TP X pins σ Q) X.xe s
def tOp (r:R2) (ta tb:TE):TE:=fun σ H Q=>ta σ H fun x H1=>tb σ H1 fun y H2=>r x y H2 Q
def tUn (r:V→Hp→VK→Prop) (ta:TE):TE:=fun σ H Q=>ta σ H fun x H1=>r x H1 Q
inductive XI (C:Int→Int→Prop) (g:Int→Int→V) (x y:V) (H:Hp) (Q:VK):Prop
  | mk (i j:Int):x = .int i→y = .int j→C i j→Q (g i j) H→XI C g x y H Q
inductive XI0 (g:Int→Int→V) (x y:V) (H:Hp) (Q:VK):Prop
  | mk (i j:Int):x = .int i→y = .int j→Q (g i j) H→XI0 g x y H Q
def rI (C:Int→Int→Prop) (g:Int→Int→V):R2:=fun x y H Q=>XI C g x y H Q
def rI0 (g:Int→Int→V):R2:=fun x y H Q=>XI0 g x y H Q
def rU (g:Int→V):V→Hp→VK→Prop:=fun x H Q=>∃ i,x = .int i∧Q (g i) H
section
variable {X:Cx} {a b c:Expr} {ta tb tc:TE} {pos:Pos}
theorem binT (ha:PE X a ta) (hb:PE X b tb) {pins:List (Addr×Obj)} {s:Shared} {σ:St} {H:Hp} {R:V→V→Hp→Prop} (I:Inv X pins σ H s)
    (h:ta σ H fun x H1=>tb σ H1 fun y H2=>R x y H2) {Q:Value→Shared→Prop} {f:Value→Value→Sem Value}
    (hf:∀ v u s2 x y H2,Inv X pins σ H2 s2→RelV x v→RelV y u→R x y H2→wpAny (model X.prog X.w) X.A (f v u) Q X.xe s2) :
    wpAny (model X.prog X.w) X.A (eval a X.env) (fun v s₁=>wpAny (model X.prog X.w) X.A (eval b X.env) (fun u s₂=>wpAny (model X.prog X.w) X.A (f v u) Q X.xe s₂) X.xe s₁) X.xe s:=by
  refine thn (ha pins s σ H _ I h) fun v s1 ⟨x,H1,I1,r1,q1⟩=>?_
  refine thn (hb pins s1 σ H1 _ I1 q1) fun u s2 ⟨y,H2,I2,r2,q2⟩=>?_
  exact hf v u s2 x y H2 I2 r1 r2 q2
theorem pe_op {op:Operator} {r:R2} (ho:OpR X (binaryOp op) r) (ha:PE X a ta) (hb:PE X b tb):PE X (.BinOp a op b pos) (tOp r ta tb):=by
  intro pins s σ H Q I h
  exact wpAny_BinOp (binT ha hb I h fun v u s2 x y H2 I2 rx ry q=>ho pins s2 σ H2 x y v u Q I2 rx ry q)
theorem pe_un {op:UnaryOp} {r:V→Hp→VK→Prop} (ho:UnR X (unaryOp op) r) (ha:PE X a ta):PE X (.UnaryOp op a pos) (tUn r ta):=by
  intro pins s σ H Q I h
  exact UnaryOp_ (thn (ha pins s σ H _ I h) fun v s1 ⟨x,H1,I1,r1,q1⟩=>ho pins s1 σ H1 x v Q I1 r1 q1)
theorem opI {f:Value→Value→Sem Value} {C:Int→Int→Prop} {g:Int→Int→Int}
    (rule:∀ (i j:Int) (t u:Tok) (s:Shared) (Q:Value→Shared→Prop) (E:Value→Shared→Prop),C i j→Q (.int (g i j) s.toks) { s with toks:=s.toks + 1 }→wpAny (model X.prog X.w) X.A (f (.int i t) (.int j u)) Q E s) :
    OpR X f (rI C fun i j=>.int (g i j)):=by
  intro pins s σ H x y v u Q I rx ry h
  obtain ⟨i,j,rfl,rfl,hc,q⟩:=h
  obtain ⟨t,rfl⟩:=rx
  obtain ⟨t',rfl⟩:=ry
  exact rule i j t t' s _ _ hc ⟨.int (g i j),H,I.tok _,⟨_,rfl⟩,q⟩
theorem opI0 {f:Value→Value→Sem Value} {g:Int→Int→Int}
    (rule:∀ (i j:Int) (t u:Tok) (s:Shared) (Q:Value→Shared→Prop) (E:Value→Shared→Prop),Q (.int (g i j) s.toks) { s with toks:=s.toks + 1 }→wpAny (model X.prog X.w) X.A (f (.int i t) (.int j u)) Q E s) :
    OpR X f (rI0 fun i j=>.int (g i j)):=by
  intro pins s σ H x y v u Q I rx ry h
  obtain ⟨i,j,rfl,rfl,q⟩:=h
  obtain ⟨t,rfl⟩:=rx
  obtain ⟨t',rfl⟩:=ry
  exact rule i j t t' s _ _ ⟨.int (g i j),H,I.tok _,⟨_,rfl⟩,q⟩
theorem opB0 {f:Value→Value→Sem Value} {g:Int→Int→Bool}
    (rule:∀ (i j:Int) (t u:Tok) (s:Shared) (Q:Value→Shared→Prop) (E:Value→Shared→Prop),Q (.bool (g i j)) s→wpAny (model X.prog X.w) X.A (f (.int i t) (.int j u)) Q E s) :
    OpR X f (rI0 fun i j=>.bl (g i j)):=by
  intro pins s σ H x y v u Q I rx ry h
  obtain ⟨i,j,rfl,rfl,q⟩:=h
  obtain ⟨t,rfl⟩:=rx
  obtain ⟨t',rfl⟩:=ry
  exact rule i j t t' s _ _ ⟨.bl (g i j),H,I,rfl,q⟩
def CDiv (i j:Int):Prop:=0 < j∧j < 1073741824
def CDivN (i j:Int):Prop:=j≠0∧j.natAbs < 1073741824
def CPow (i j:Int):Prop:=0≤j∧j≤1000000∧i.natAbs < 2 ^ 64
def CMul (i j:Int):Prop:=(-(2 ^ 64) < i∧i < 2 ^ 64)∨(-(2 ^ 64) < j∧j < 2 ^ 64)
theorem CMul.ok {i j:Int} (h:CMul i j):IntMulOk i j:=by
  rcases h with ⟨h1,h2⟩ | ⟨h1,h2⟩
  · exact .of_left (intBits_le_64 h1 h2)
  · exact .of_right (intBits_le_64 h1 h2)
theorem op_add:OpR X (binaryOp .Add) (rI0 fun i j=>.int (i + j)):=opI0 fun _ _ _ _ _ _ _ q=>add_int q
theorem op_sub:OpR X (binaryOp .Sub) (rI0 fun i j=>.int (i - j)):=opI0 fun _ _ _ _ _ _ _ q=>sub_int q
theorem op_mul:OpR X (binaryOp .Mult) (rI CMul fun i j=>.int (i * j)):=opI fun _ _ _ _ _ _ _ hc q=>mul_int q hc.ok
theorem op_fdiv:OpR X (binaryOp .FloorDiv) (rI CDiv fun i j=>.int (i / j)):=opI fun i j _ _ _ _ _ hc q=>by
  have h1:(0:Int) < j:=hc.1
  have h2:j < 1073741824:=hc.2
  exact floordiv_int (by omega) (by rw [Int.fdiv_eq_ediv_of_nonneg i (by omega)];exact q) (.inl (PyProof.noPylong_small (by omega)))
theorem op_mod:OpR X (binaryOp .Mod) (rI (fun _ j=>0 < j) fun i j=>.int (i % j)):=opI fun i j _ _ _ _ _ hc q=>by
  have h1:(0:Int) < j:=hc
  exact mod_int' (by omega) (by rw [Int.fmod_eq_emod_of_nonneg i (by omega)];exact q)
theorem op_pow:OpR X (binaryOp .Pow) (rI CPow fun i j=>.int (i ^ j.toNat)):=opI fun _ _ _ _ _ _ _ hc q=>pow_int_small hc.1 hc.2.1 hc.2.2 q
theorem unI {f:Value→Sem Value} {g:Int→Int}
    (rule:∀ (i:Int) (t:Tok) (s:Shared) (Q:Value→Shared→Prop) (E:Value→Shared→Prop),Q (.int (g i) s.toks) { s with toks:=s.toks + 1 }→wpAny (model X.prog X.w) X.A (f (.int i t)) Q E s) :
    UnR X f (rU fun i=>.int (g i)):=by
  intro pins s σ H x v Q I rx h
  obtain ⟨i,rfl,q⟩:=h
  obtain ⟨t,rfl⟩:=rx
  exact rule i t s _ _ ⟨.int (g i),H,I.tok _,⟨_,rfl⟩,q⟩
theorem un_neg:UnR X (unaryOp .USub) (rU fun i=>.int (-i)):=unI fun _ _ _ _ _ q=>neg_int q
end
def scal:V→V→Bool
  | .non,.non=>true | .non,.int _=>true | .int _,.non=>true | .non,.bl _=>true | .bl _,.non=>true | .non,.str _=>true | .str _,.non=>true
  | .int _,.int _=>true | .bl _,.bl _=>true | .str _,.str _=>true | .byt _,.byt _=>true
  | .int _,.str _=>true | .str _,.int _=>true | .bl _,.str _=>true | .str _,.bl _=>true
  | _,_=>false
def rEq:R2:=fun x y H Q=>scal x y = true∧Q (.bl (decide (x = y))) H
def rNe:R2:=fun x y H Q=>scal x y = true∧Q (.bl (!decide (x = y))) H
theorem dec_int {i j:Int}:decide (V.int i = V.int j) = (i == j):=by
  rw [Bool.eq_iff_iff]
  simp
theorem dec_bl {i j:Bool}:decide (V.bl i = V.bl j) = (i == j):=by
  rw [Bool.eq_iff_iff]
  simp
theorem dec_str {i j:Str}:decide (V.str i = V.str j) = (i == j):=by
  rw [Bool.eq_iff_iff]
  simp
theorem dec_byt {i j:Array UInt8}:decide (V.byt i = V.byt j) = (i.toList == j.toList):=by
  rw [Bool.eq_iff_iff]
  cases i
  cases j
  simp
section
variable {X:Cx} {a b c:Expr} {ta tb tc:TE} {pos:Pos}
theorem fin_bl {pins:List (Addr×Obj)} {σ:St} {H:Hp} {s:Shared} {Q:VK} {k k':Bool} (I:Inv X pins σ H s) (q:Q (.bl k) H) (e:k = k'):EP X pins σ Q (.bool k') s:=by
  subst e
  exact ⟨.bl k,H,I,rfl,q⟩
theorem op_eq:OpR X (compareOp .Eq) rEq:=by
  intro pins s σ H x y v u Q I rx ry h
  obtain ⟨hs,q⟩:=h
  cases x with
  | non =>
    cases rx
    cases y with
    | non=>cases ry;exact PySem.EqNone.eq_none_none (fin_bl I q (by simp))
    | bl j=>cases ry;exact PySem.EqNone.eq_none_bool (fin_bl I q (by simp))
    | int j=>obtain ⟨t',rfl⟩:=ry;exact PySem.EqNone.eq_none_int (fin_bl I q (by simp))
    | str j=>obtain ⟨t',rfl⟩:=ry;exact PySem.EqNone.eq_none_str (fin_bl I q (by simp))
    | _=>exact absurd (show false = true from hs) Bool.false_ne_true
  | bl i =>
    cases rx
    cases y with
    | non=>cases ry;exact PySem.EqNone.eq_bool_none (fin_bl I q (by simp))
    | bl j=>cases ry;exact eq_bool (fin_bl I q dec_bl)
    | str j=>obtain ⟨t',rfl⟩:=ry;exact PySem.EqMixed.eq_bool_str (fin_bl I q (by simp))
    | _=>exact absurd (show false = true from hs) Bool.false_ne_true
  | int i =>
    obtain ⟨t,rfl⟩:=rx
    cases y with
    | non=>cases ry;exact PySem.EqNone.eq_int_none (fin_bl I q (by simp))
    | int j=>obtain ⟨t',rfl⟩:=ry;exact eq_int (fin_bl I q dec_int)
    | str j=>obtain ⟨t',rfl⟩:=ry;exact PySem.EqMixed.eq_int_str (fin_bl I q (by simp))
    | _=>exact absurd (show false = true from hs) Bool.false_ne_true
  | str i =>
    obtain ⟨t,rfl⟩:=rx
    cases y with
    | non=>cases ry;exact PySem.EqNone.eq_str_none (fin_bl I q (by simp))
    | bl j=>cases ry;exact PySem.EqMixed.eq_str_bool (fin_bl I q (by simp))
    | int j=>obtain ⟨t',rfl⟩:=ry;exact PySem.EqMixed.eq_str_int (fin_bl I q (by simp))
    | str j=>obtain ⟨t',rfl⟩:=ry;exact eq_str (fin_bl I q dec_str)
    | _=>exact absurd (show false = true from hs) Bool.false_ne_true
  | byt i =>
    obtain ⟨t,rfl⟩:=rx
    cases y with
    | byt j=>obtain ⟨t',rfl⟩:=ry;exact PySem.W.eq_bytes (fin_bl I q dec_byt)
    | _=>exact absurd (show false = true from hs) Bool.false_ne_true
  | _=>cases y <;> exact absurd (show false = true from hs) Bool.false_ne_true
theorem op_ne:OpR X (compareOp .NotEq) rNe:=by
  intro pins s σ H x y v u Q I rx ry h
  obtain ⟨hs,q⟩:=h
  cases x with
  | non =>
    cases rx
    cases y with
    | non=>cases ry;exact PySem.EqNone.ne_none_none (fin_bl I q (by simp))
    | bl j=>cases ry;exact PySem.EqNone.ne_none_bool (fin_bl I q (by simp))
    | int j=>obtain ⟨t',rfl⟩:=ry;exact PySem.EqNone.ne_none_int (fin_bl I q (by simp))
    | str j=>obtain ⟨t',rfl⟩:=ry;exact PySem.EqNone.ne_none_str (fin_bl I q (by simp))
    | _=>exact absurd (show false = true from hs) Bool.false_ne_true
  | bl i =>
    cases rx
    cases y with
    | non=>cases ry;exact PySem.EqNone.ne_bool_none (fin_bl I q (by simp))
    | bl j=>cases ry;exact ne_bool (fin_bl I q (congrArg not dec_bl))
    | str j=>obtain ⟨t',rfl⟩:=ry;exact PySem.EqMixed.ne_bool_str (fin_bl I q (by simp))
    | _=>exact absurd (show false = true from hs) Bool.false_ne_true
  | int i =>
    obtain ⟨t,rfl⟩:=rx
    cases y with
    | non=>cases ry;exact PySem.EqNone.ne_int_none (fin_bl I q (by simp))
    | int j=>obtain ⟨t',rfl⟩:=ry;exact ne_int (fin_bl I q (congrArg not dec_int))
    | str j=>obtain ⟨t',rfl⟩:=ry;exact PySem.EqMixed.ne_int_str (fin_bl I q (by simp))
    | _=>exact absurd (show false = true from hs) Bool.false_ne_true
  | str i =>
    obtain ⟨t,rfl⟩:=rx
    cases y with
    | non=>cases ry;exact PySem.EqNone.ne_str_none (fin_bl I q (by simp))
    | bl j=>cases ry;exact PySem.EqMixed.ne_str_bool (fin_bl I q (by simp))
    | int j=>obtain ⟨t',rfl⟩:=ry;exact PySem.EqMixed.ne_str_int (fin_bl I q (by simp))
    | str j=>obtain ⟨t',rfl⟩:=ry;exact ne_str (fin_bl I q (congrArg not dec_str))
    | _=>exact absurd (show false = true from hs) Bool.false_ne_true
  | byt i =>
    obtain ⟨t,rfl⟩:=rx
    cases y with
    | byt j=>obtain ⟨t',rfl⟩:=ry;exact PySem.W.ne_bytes (fin_bl I q (congrArg not dec_byt))
    | _=>exact absurd (show false = true from hs) Bool.false_ne_true
  | _=>cases y <;> exact absurd (show false = true from hs) Bool.false_ne_true
theorem op_lt:OpR X (compareOp .Lt) (rI0 fun i j=>.bl (decide (i < j))):=opB0 fun _ _ _ _ _ _ _ q=>lt_int q
theorem op_le:OpR X (compareOp .LtE) (rI0 fun i j=>.bl (decide (i≤j))):=opB0 fun _ _ _ _ _ _ _ q=>le_int q
theorem op_gt:OpR X (compareOp .Gt) (rI0 fun i j=>.bl (decide (j < i))):=opB0 fun _ _ _ _ _ _ _ q=>gt_int q
theorem op_lt_str:OpR X (compareOp .Lt) (fun x y H Q=>∃ i j,x = .str i∧y = .str j∧Q (.bl (decide (i.cps.toList < j.cps.toList))) H):=by
  intro pins s σ H x y v u Q I rx ry h
  obtain ⟨i,j,rfl,rfl,q⟩:=h
  obtain ⟨t,rfl⟩:=rx
  obtain ⟨t',rfl⟩:=ry
  exact lt_str (fin_bl I q rfl)
theorem op_notN:OpR X (compareOp .IsNot) (fun x y H Q=>y = .non∧Q (.bl (!decide (x = .non))) H):=by
  intro pins s σ H x y v u Q I rx ry h
  obtain ⟨rfl,q⟩:=h
  cases ry
  refine isnot_none_gen (fin_bl I q ?_)
  cases x <;> first
    | (cases rx;rfl)
    | (obtain ⟨t,rfl⟩:=rx;rfl)
def isObj:HO→Bool
  | .lst _=>true
  | .ins _ _ _=>true
  | _=>false
theorem nomark (b:Expr) {op:CmpOp} (h:op≠.In:=by decide) (h2:op≠.NotIn:=by decide):behindInMarks op b = false:=by
  have e1:(op == CmpOp.In) = false:=by cases op <;> first | rfl | exact absurd rfl h
  have e2:(op == CmpOp.NotIn) = false:=by cases op <;> first | rfl | exact absurd rfl h2
  cases b <;> simp [behindInMarks,e1,e2]
theorem pe_cmpR {op:CmpOp} {r:R2} (ho:OpR X (compareOp op) r) (ha:PE X a ta) (hb:PE X b tb) (hm:behindInMarks op b = false):PE X (.Compare a [op] [b] pos) (tOp r ta tb):=by
  intro pins s σ H Q I h
  exact wpAny_Compare1 (binT ha hb I h fun v u s2 x y H2 I2 rx ry q=>ho pins s2 σ H2 x y v u Q I2 rx ry q) hm
def tTest (t:TE):TT:=fun σ H Q=>t σ H fun x H'=>XBl x H' Q
theorem pt_cmpR {op:CmpOp} {r:R2} (ho:OpR X (compareOp op) r) (ha:PE X a ta) (hb:PE X b tb) (hm:behindInMarks op b = false):PT X (.Compare a [op] [b] pos) (tTest (tOp r ta tb)):=by
  intro pins s σ H Q I h
  refine wpAny_isTrue_Compare1 (thn (ha pins s σ H _ I h) fun v s1 ⟨x,H1,I1,r1,q1⟩=>thn (hb pins s1 σ H1 _ I1 q1) fun u s2 ⟨y,H2,I2,r2,q2⟩ =>
    thn (ho pins s2 σ H2 x y v u _ I2 r1 r2 q2) fun c s3 ⟨z,H3,I3,r3,k,e,q3⟩=>?_) hm
  subst e
  cases r3
  exact wpAny_truthy_bool ⟨H3,I3,q3⟩
def tChain (r r':R2) (ta tb tc:TE):TE:=fun σ H Q=>ta σ H fun x H1=>tb σ H1 fun y H2=>r x y H2 fun z H3=>∃ k,z = .bl k ∧
  (if k = true then tc σ H3 fun w' H4=>r' y w' H4 Q else Q (.bl false) H3)
def TruV (K:PySem.W.Frag) (x:V) (H:Hp) (k:Bool):Prop :=
  match x with
  | .non=>k = false
  | .bl b=>k = b
  | .int i=>k = (i != 0)
  | .str y=>y.length≤sizeLine∧k = ((y.length:Int) != 0)
  | .byt y=>y.size≤sizeLine∧k = ((y.size:Int) != 0)
  | .ref p=>(∃ xs,SqL K H p xs∧k = !xs.isEmpty)∨(∃ xs,SqT K H p xs∧k = !xs.isEmpty)∨∃ kvs,H p = some (.dK kvs)∧k = !kvs.isEmpty
  | _=>False
theorem isEmpty_kv {κ:Type} {kvs:List (κ×V)} {vs:List (κ×Value)} (r:KV kvs vs):(!vs.isEmpty) = !kvs.isEmpty:=by
  cases r <;> rfl
theorem isEmpty_of {xs:List V} {its:List Value} (r:Vals xs its):(!its.toArray.isEmpty) = !xs.isEmpty:=by
  cases r <;> simp
theorem line63:(sizeLine:Nat) < 2 ^ 63:=by rw [sizeLine_eq];decide
theorem tru_ok:TruR X (fun x H Q=>∃ k,TruV X.K x H k∧Q k H):=by
  intro pins s σ H x v Q I rx h
  obtain ⟨k,e,q⟩:=h
  have hl:=line63
  have hs:sizeLine = 16777216:=sizeLine_eq
  cases x with
  | non =>
    cases rx
    have e':k = false:=e
    subst e'
    exact truthy_none ⟨H,I,q⟩
  | bl b =>
    cases rx
    have e':k = b:=e
    subst e'
    exact wpAny_truthy_bool ⟨H,I,q⟩
  | int i =>
    obtain ⟨t,rfl⟩:=rx
    have e':k = (i != 0):=e
    subst e'
    exact PySem.P.truthy_int ⟨H,I,q⟩
  | str y =>
    obtain ⟨t,rfl⟩:=rx
    obtain ⟨hy,e'⟩:y.length≤sizeLine∧k = ((y.length:Int) != 0):=e
    subst e'
    exact PySem.P.truthy_str (by omega) ⟨H,I.tok _,q⟩
  | byt y =>
    obtain ⟨t,rfl⟩:=rx
    obtain ⟨hy,e'⟩:y.size≤sizeLine∧k = ((y.size:Int) != 0):=e
    subst e'
    exact PySem.W.truthy_bytes (by omega) ⟨H,I.tok _,q⟩
  | ref p =>
    cases rx
    have e':(∃ xs,SqL X.K H p xs∧k = !xs.isEmpty)∨(∃ xs,SqT X.K H p xs∧k = !xs.isEmpty)∨∃ kvs,H p = some (.dK kvs)∧k = !kvs.isEmpty:=e
    rcases e' with ⟨xs,hx,e'⟩ | ⟨xs,hx,e'⟩ | ⟨kvs,hx,e'⟩
    · subst e'
      obtain ⟨its,r,pl,hz⟩:=I.list hx
      have hlen:=r.length
      exact wpAny_truthy_list pl.isList (by simp only [List.size_toArray];omega) ⟨H,I.tok _,by rw [isEmpty_of r];exact q⟩
    · subst e'
      obtain ⟨its,r,pl,hz⟩:=I.tuple hx
      have hlen:=r.length
      exact truthy_tuple pl (by simp only [List.size_toArray];omega) ⟨H,I.tok _,by rw [isEmpty_of r];exact q⟩
    · subst e'
      obtain ⟨hz,hS,vs,r,m⟩:kvs.length≤sizeLine∧(p == sysModules) = false∧∃ vs,KV kvs vs∧s.heap.DictOf (mixKind X.prog X.w) p vs:=I.hok p _ hx
      have hlen:kvs.length = vs.length:=Paired.length r
      exact wpAny_truthy_dict hS m (by omega) ⟨H,I.tok _,by rw [isEmpty_kv r];exact q⟩
  | _=>exact (show False from e).elim
theorem pt_truth (ha:PE X a ta) (he:∀ whole,isTrue a X.env whole = (do let v ← whole;standAt a.pos;holding [v] (truthy v))) :
    PT X a (fun σ H Q=>ta σ H fun x H'=>∃ k,TruV X.K x H' k∧Q k H'):=by
  intro pins s σ H Q I h
  exact isTrue_plain (thn (ha pins s σ H _ I h) fun v s1 ⟨x,H1,I1,r1,q1⟩=>tru_ok pins s1 σ H1 x v Q I1 r1 q1) (he _)
theorem op_add_str:OpR X (binaryOp .Add) (fun x y H Q=>∃ i j,x = .str i∧y = .str j∧i.length + j.length≤sizeLine∧Q (.str (i ++ j)) H):=by
  intro pins s σ H x y v u Q I rx ry h
  obtain ⟨i,j,rfl,rfl,hz,q⟩:=h
  obtain ⟨t,rfl⟩:=rx
  obtain ⟨t',rfl⟩:=ry
  exact add_str (fun t' tk=>⟨.str (i ++ j),H,I.tok _,⟨_,rfl⟩,q⟩) hz
def PlainIxT (b:Expr):Prop:=∀ o i,subscripted b false o i = operate [o,i] (getItem o i)
theorem vals1 {x:V} {us:List Value} (r:Vals [x] us):∃ u,us = [u]∧RelV x u:=by
  cases r with
  | cons r1 r2=>cases r2;exact ⟨_,rfl,r1⟩
theorem vals2 {x y:V} {us:List Value} (r:Vals [x,y] us):∃ u w',us = [u,w']∧RelV x u∧RelV y w':=by
  cases r with
  | cons r1 r2 =>
    cases r2 with
    | cons r3 r4=>cases r4;exact ⟨_,_,rfl,r1,r3⟩
theorem call_max2 (hc:X.calm = true):CallR X (.builtin "max") (fun xs H Q=>∃ i j,xs = [.int i,.int j]∧Q (.int (if j > i then j else i)) H):=by
  intro pins s σ H xs us Q I r h
  obtain ⟨i,j,rfl,q⟩:=h
  obtain ⟨u,w',rfl,⟨t,rfl⟩,⟨t',rfl⟩⟩:=vals2 r
  refine max_two_ints (I.ok.hd hc) fun h' tk k=>⟨_,H,I.kept k,?_,q⟩
  by_cases hj:j > i
  · rw [if_pos hj,if_pos hj];exact ⟨_,rfl⟩
  · rw [if_neg hj,if_neg hj];exact ⟨_,rfl⟩
theorem call_min2 (hc:X.calm = true):CallR X (.builtin "min") (fun xs H Q=>∃ i j,xs = [.int i,.int j]∧Q (.int (if j < i then j else i)) H):=by
  intro pins s σ H xs us Q I r h
  obtain ⟨i,j,rfl,q⟩:=h
  obtain ⟨u,w',rfl,⟨t,rfl⟩,⟨t',rfl⟩⟩:=vals2 r
  refine min_two_ints (I.ok.hd hc) fun h' tk k=>⟨_,H,I.kept k,?_,q⟩
  by_cases hj:j < i
  · rw [if_pos hj,if_pos hj];exact ⟨_,rfl⟩
  · rw [if_neg hj,if_neg hj];exact ⟨_,rfl⟩
def LenV (K:PySem.W.Frag) (x:V) (H:Hp) (n:Nat):Prop :=
  match x with
  | .str y=>y.length≤sizeLine∧n = y.length
  | .byt y=>y.size≤sizeLine∧n = y.size
  | .ref p=>(∃ xs,SqL K H p xs∧n = xs.length)∨∃ xs,SqT K H p xs∧n = xs.length
  | _=>False
theorem call_len:CallR X (.builtin "len") (fun xs H Q=>∃ x n,xs = [x]∧LenV X.K x H n∧Q (.int n) H):=by
  intro pins s σ H xs us Q I r h
  obtain ⟨x,n,rfl,e,q⟩:=h
  obtain ⟨u,rfl,rx⟩:=vals1 r
  have hl:=line63
  have hs:sizeLine = 16777216:=sizeLine_eq
  cases x with
  | str y =>
    obtain ⟨t,rfl⟩:=rx
    obtain ⟨hy,e'⟩:y.length≤sizeLine∧n = y.length:=e
    subst e'
    exact len_str (by omega) ⟨.int _,H,I.tok _,⟨_,rfl⟩,q⟩
  | byt y =>
    obtain ⟨t,rfl⟩:=rx
    obtain ⟨hy,e'⟩:y.size≤sizeLine∧n = y.size:=e
    subst e'
    exact PySem.W.len_bytes (by omega) ⟨.int _,H,I.tok _,⟨_,rfl⟩,q⟩
  | ref p =>
    cases rx
    have e':(∃ xs,SqL X.K H p xs∧n = xs.length)∨∃ xs,SqT X.K H p xs∧n = xs.length:=e
    rcases e' with ⟨xs,hx,e'⟩ | ⟨xs,hx,e'⟩
    · subst e'
      obtain ⟨its,r',pl,hz⟩:=I.list hx
      have hlen:=r'.length
      exact Calls.call_len_list pl.isList (by simp only [List.size_toArray];omega) ⟨.int xs.length,H,I.tok _,⟨_,by simp only [List.size_toArray];rw [hlen]⟩,q⟩
    · subst e'
      obtain ⟨its,r',pl,hz⟩:=I.tuple hx
      have hlen:=r'.length
      exact len_tuple pl (by simp only [List.size_toArray];omega) ⟨.int xs.length,H,I.tok _,⟨_,by simp only [List.size_toArray];rw [hlen]⟩,q⟩
  | _=>exact (show False from e).elim
end
end L2
namespace L2
open PySem PySem.Spec PyProof.Rows
structure ObjM (h:Heap) (x dx C:Addr) (mA:Str→Option Value):Prop where
  obj:h.get? x = some (PySem.W.instObj C dx)
  ns:h.Ns1 dx mA
  ne:dx≠x
section
variable {prog:Program} {w:World} {A:Around} {E:Value→Shared→Prop} {s:Shared} {K:PySem.W.Frag} {x dx C f:Addr} {mA:Str→Option Value} {name:Str} {v:Value}
end
def putF (f:Str) (v:V):List (Str×V)→List (Str×V)
  | []=>[(f,v)]
  | (g,x) :: r=>if g = f then (g,v) :: r else (g,x) :: putF f v r
theorem RelO.some_of {v:V} {o:Option Value} (r:RelO (some v) o):∃ u,o = some u∧RelV v u:=by
  cases o with
  | none=>exact (show False from r).elim
  | some u=>exact ⟨u,rfl,r⟩
section
variable {P:Program} {w:World} {H H':Hp} {h h':Heap} {a C dx:Addr} {fs fs':List (Str×V)}
end
structure Cls (K:PySem.W.Frag) (C:Addr):Prop where
  pg:PySem.W.plainGet K C Str.empty = true
  hd:PySem.W.hasDictIn K C = true
  po:PySem.W.plainOver K C = true
  sa:PySem.W.findIn K (.ref C) "__setattr__" = some (some (.builtin "object.__setattr__"))
def NoAttr (K:PySem.W.Frag) (C:Addr) (f:Str):Prop:=PySem.W.findIn K (.ref C) f = some none
structure Con (K:PySem.W.Frag) (C:Addr) (f:Str) (v:V) (u:Value):Prop where
  at_:PySem.W.findIn K (.ref C) f = some (some u)
  rel:RelV v u
  get:PySem.W.specialIn K u "__get__" = some none
  cp:PySem.W.copiedNames.contains f = false
structure Meth (K:PySem.W.Frag) (C:Addr) (m:Str) (f:Addr):Prop where
  at_:PySem.W.findIn K (.ref C) m = some (some (.ref f))
  fn:PySem.W.isFn K (.ref f) = true
  kp:PySem.W.keepIn K (.ref f) = true
section
variable {X:Cx} {pins:List (Addr×Obj)} {σ:St} {H:Hp} {s:Shared} {a C dx:Addr} {fs:List (Str×V)} {f:Str} {v:V} {A:Around} {E:Value→Shared→Prop}
end
def tFld (K:PySem.W.Frag) (ta:TE) (f:Str):TE:=fun σ H Q=>ta σ H fun x H1=>∃ a C dx fs v,x = .ref a∧H1 a = some (.ins C dx fs)∧Cls K C∧NoAttr K C f∧fs.lookup f = some v∧Q v H1
def tCon (K:PySem.W.Frag) (ta:TE) (f:Str):TE:=fun σ H Q=>ta σ H fun x H1=>∃ a C dx fs v u,x = .ref a∧H1 a = some (.ins C dx fs)∧Cls K C∧Con K C f v u∧fs.lookup f = none∧Q v H1
def sFld (K:PySem.W.Frag) (ta tv:TE) (f:Str):TS:=fun D σ H=>tv σ H fun y H1=>ta σ H1 fun x H2=>∃ a C dx fs,x = .ref a∧H2 a = some (.ins C dx fs)∧Cls K C∧NoAttr K C f∧fs.length < 1000 ∧
  D.nx σ (upd H2 a (.ins C dx (putF f y fs)))
def InOp (X:Cx) (op:Operator) (rd:V→V→Hp→VK→Prop):Prop :=
  ∀ (pins:List (Addr×Obj)) (s:Shared) (σ:St) (H:Hp) (x y:V) (u v:Value) (Q:VK),Inv X pins σ H s→RelV x u→RelV y v→rd x y H Q→wpAny (model X.prog X.w) X.A (inplaceOp op u v) (EP X pins σ Q) X.xe s
def sFldAug (K:PySem.W.Frag) (ta tv:TE) (rd:V→V→Hp→VK→Prop) (f:Str):TS:=fun D σ H=>ta σ H fun x H1=>∃ a C dx fs v,x = .ref a∧H1 a = some (.ins C dx fs)∧Cls K C∧NoAttr K C f∧fs.lookup f = some v ∧
  tv σ H1 fun y H2=>rd v y H2 fun z H3=>∃ dx' fs',H3 a = some (.ins C dx' fs')∧fs'.length < 1000∧D.nx σ (upd H3 a (.ins C dx' (putF f z fs')))
section
variable {X:Cx} {o e value:Expr} {f:Str} {pos pos' tpos:Pos} {ta tv:TE}
def rAdd:V→V→Hp→VK→Prop:=fun x y H Q=>∃ i j,x = .int i∧y = .int j∧Q (.int (i + j)) H
def rSub:V→V→Hp→VK→Prop:=fun x y H Q=>∃ i j,x = .int i∧y = .int j∧Q (.int (i - j)) H
theorem in_add:InOp X .Add rAdd:=by
  rintro pins s σ H x y u v Q I rx ry ⟨i,j,rfl,rfl,q⟩
  obtain ⟨t,rfl⟩:=(show ∃ t,u = Value.int i t from rx)
  obtain ⟨t',rfl⟩:=(show ∃ t',v = Value.int j t' from ry)
  exact PyProof.Rows.iadd_int ⟨.int (i + j),H,I.tok _,⟨_,rfl⟩,q⟩
theorem in_sub:InOp X .Sub rSub:=by
  rintro pins s σ H x y u v Q I rx ry ⟨i,j,rfl,rfl,q⟩
  obtain ⟨t,rfl⟩:=(show ∃ t,u = Value.int i t from rx)
  obtain ⟨t',rfl⟩:=(show ∃ t',v = Value.int j t' from ry)
  exact PyProof.Rows.isub_int ⟨.int (i - j),H,I.tok _,⟨_,rfl⟩,q⟩
end
section
variable {X:Cx} {pins:List (Addr×Obj)} {σ:St} {H:Hp} {s:Shared} {A:Around} {E:Value→Shared→Prop} {Q:Value→Shared→Prop} {c:Value} {b:Bool}
inductive TyOf (K:PySem.W.Frag) (H:Hp):V→Value→Prop where
  | non:TyOf K H .non (.type "NoneType")
  | bl (x:Bool):TyOf K H (.bl x) (.type "bool")
  | int (i:Int):TyOf K H (.int i) (.type "int")
  | str (x:Str):TyOf K H (.str x) (.type "str")
  | flt (x:UInt64):TyOf K H (.flt x) (.type "float")
  | lst {a:Addr} {xs:List V} (e:H a = some (.lst xs)):TyOf K H (.ref a) (.type "list")
  | frz {a:Addr} {o:Obj} {xs:List V} (e:H a = some (.frz o (.lst xs))):TyOf K H (.ref a) (.type "list")
  | tup {a:Addr} {xs:List V} (e:H a = some (.tup xs)):TyOf K H (.ref a) (.type "tuple")
  | dK {a:Addr} {kvs:List (Key×V)} (e:H a = some (.dK kvs)):TyOf K H (.ref a) (.type "dict")
  | dT {a:Addr} {kvs:List (List Key×V)} (e:H a = some (.dT kvs)):TyOf K H (.ref a) (.type "dict")
  | ins {a C dx:Addr} {fs:List (Str×V)} (e:H a = some (.ins C dx fs)) (cl:Cls K C) (ha:PySem.W.findIn K (.ref C) "__class__" = some (some (.builtin "object.__class__")))
      (hn:PySem.W.specialIn K (.builtin "object.__class__") "__get__" = some (some (.builtin "getset_descriptor.__get__"))) (htk:PySem.W.takesIn K (.builtin "object.__class__") = some true)
      (hm:PySem.W.mroIn K C (.type "object") = some true):TyOf K H (.ref a) (.ref C)
end
end L2
namespace L2
open PySem PySem.Spec PyProof.Rows
structure Room (k:Nat) (A:Around):Prop where
  hd:A.handled = none
  dp:A.depth + 3 * k + 5 < recursionLimit
  un:A.units + 16 * k + 200 < cLine
theorem Room.mono {j k:Nat} {A:Around} (r:Room k A) (h:j≤k):Room j A:=⟨r.hd,by have:=r.dp;omega,by have:=r.un;omega⟩
theorem Room.deeper {k:Nat} {A:Around} (r:Room (k + 1) A) (env:Env):Room k (A.deeper env) :=
  ⟨r.hd,by have:=r.dp;show A.depth + 1 + 3 * k + 5 < _;omega,by have:=r.un;show A.units + 3 + 16 * k + 200 < _;omega⟩
theorem Room.depth {k:Nat} {A:Around} (r:Room k A):A.depth < recursionLimit:=by have:=r.dp;omega
theorem Room.units {k:Nat} {A:Around} (r:Room k A):A.units + 64 < cLine:=by have:=r.un;omega
def tNil:TA:=fun _ H Q=>Q [] H
def tCons (ta:TE) (tr:TA):TA:=fun σ H Q=>ta σ H fun x H1=>tr σ H1 fun xs H2=>Q (x :: xs) H2
section
variable {X:Cx} {e:Expr} {es:List Expr} {te:TE} {t:TA} {pos:Pos}
theorem pa_nil:PA X [] tNil:=fun _ _ _ _ H Q I h=>Calls.spliced_nil ⟨[],H,I,.nil,h⟩
theorem pa_cons (ha:PE X e te) (hr:PA X es t) (hs:starEach (e :: es) X.env = (false,eval e X.env) :: starEach es X.env:=by rfl):PA X (e :: es) (tCons te t):=by
  intro pos pins s σ H Q I h
  rw [hs]
  show wpAny _ _ (spliced ((false,eval e X.env) :: backTo pos (starEach es X.env))) _ _ s
  refine Calls.spliced_cons (thn (ha pins s σ H _ I h) fun u s1 ⟨x,H1,I1,r1,q1⟩=>?_)
  exact thn (hr pos pins s1 σ H1 _ I1 q1) fun us s2 ⟨xs,H2,I2,r2,q2⟩=>⟨x :: xs,H2,I2,.cons r1 r2,q2⟩
def tTup (t:TA):TE:=fun σ H Q=>t σ H fun xs H1=>xs.length≤sizeLine∧∀ p,H1 p = none→Q (.ref p) (upd H1 p (.tup xs))
def tLst (t:TA):TE:=fun σ H Q=>t σ H fun xs H1=>xs.length≤sizeLine∧∀ p,H1 p = none→Q (.ref p) (upd H1 p (.lst xs))
theorem pe_tup {x1} (h:PA X es t):PE X (.Tuple es x1 pos) (tTup t):=by
  intro pins s σ H Q I hq
  refine wpAny_Tuple_spliced (thn (h pos pins s σ H _ I hq) fun us s1 ⟨xs,H1,I1,r,z,q⟩=>⟨by rw [← r.length];exact z,?_⟩)
  have hf:H1 s1.heap.objs.size = none:=I1.hok.fresh (Nat.le_refl _)
  refine ⟨.ref s1.heap.objs.size,upd H1 s1.heap.objs.size (.tup xs),I1.laid (t':=s1.toks) (fun b u e=>Heap.get?_push_of_some _ e) (Nat.le_refl _) ?_,rfl,q _ hf⟩
  exact ⟨z,us,r,⟨_,Heap.get?_push_size _ rfl,rfl,_,rfl⟩⟩
theorem pe_lst (h:PA X es t):PE X (.List es pos) (tLst t):=by
  intro pins s σ H Q I hq
  refine wpAny_List_spliced (thn (h pos pins s σ H _ I hq) fun us s1 ⟨xs,H1,I1,r,z,q⟩=>⟨by rw [← r.length];exact z,?_⟩)
  have hf:H1 s1.heap.objs.size = none:=I1.hok.fresh (Nat.le_refl _)
  refine ⟨.ref s1.heap.objs.size,upd H1 s1.heap.objs.size (.lst xs),I1.laid (t':=s1.toks) (fun b u e=>Heap.get?_push_of_some _ e) (Nat.le_refl _) ?_,rfl,q _ hf⟩
  exact ⟨z,us,0,r,Heap.get?_push_size _ rfl⟩
end
abbrev Sp:=List V→Hp→VK→XK→Prop
abbrev CXT:=List Env→Hp→Shared→XK→Value→Shared→Prop
structure Env0 (P:Program) (w:World) (K:PySem.W.Frag) (mg:Str→Option Value) (base:Heap) (A:Around) (outer:List Env) (s:Shared) (H:Hp):Prop where
  frames:A.frames = some outer
  mod:Mod K mg base
  bs:∀ b o,base.get? b = some o→s.heap.get? b = some o∧H b = none
  bsz:base.objs.size≤s.heap.objs.size
  funs:s.heap.FunFrames base outer
  frf:∀ b∈frs outer,H b = none
  hok:HOk P w H s.heap
  bare:AllBare s.gens
def CE (outer:List Env) (P:Program) (w:World) (H:Hp) (s:Shared) (Q:VK) (u:Value) (s':Shared):Prop :=
  ∃ v H',s'.os = s.os∧AllBare s'.gens∧Un (frs outer) [] H H' s.heap s'.heap∧HOk P w H' s'.heap∧RelV v u∧Q v H'
def CR (CX:CXT) (outer:List Env) (P:Program) (w:World) (H:Hp) (s:Shared) (Q:VK) (E:XK) (r:Result) (s':Shared):Prop :=
  match r with
  | .ok (.ret u)=>CE outer P w H s Q u s'
  | .ok _=>False
  | .error e=>CX outer H s E e s'
structure FnOk (P:Program) (w:World) (K:PySem.W.Frag) (mg:Str→Option Value) (base:Heap) (CX:CXT) (k:Nat) (f:Addr) (fd:FuncData) (ps:List Str) (sp:Sp):Prop where
  len:∀ vs H Q E,sp vs H Q E→vs.length = ps.length
  run:∀ (A:Around) (outer:List Env) (s:Shared) (H:Hp) (args:Args) (us:List Value) (vs:List V) (Q:VK) (E:XK),Room k A→Env0 P w K mg base A outer s H→BindsTo s fd args (ps.zip us)→Vals vs us→sp vs H Q E →
    codeAny (model P w) A (.call (.ref f) args) (CR CX outer P w H s Q E) s
section
variable {X:Cx} {pins:List (Addr×Obj)} {σ:St} {H:Hp} {s s':Shared}
theorem Inv.env0 (I:Inv X pins σ H s):Env0 X.prog X.w X.K X.mg X.base X.A X.stack s H :=
  ⟨I.ok.frames,I.ok.mod,I.bs,Nat.le_trans I.ok.bsz I.sz,I.stack,I.stkFree,I.hok,I.bare⟩
theorem Inv.after {Q:VK} {u:Value} (I:Inv X pins σ H s) (h:CE X.stack X.prog X.w H s Q u s'):EP X pins σ Q u s':=by
  obtain ⟨v,H',os,bare,un,hok,r,q⟩:=h
  obtain ⟨hh,g,d,t,os'⟩:=s'
  obtain rfl:os' = s.os:=os
  exact ⟨v,H',I.call (h':=hh) (g':=g) (d':=d) (t':=t) (ch:=[]) un hok bare (fun b z=>absurd z (by simp)),r,q⟩
end
def tCall (sp:Sp) (dvs:List V) (E:XK) (t:TA):TE:=fun σ H Q=>t σ H fun vs H1=>sp (vs ++ dvs) H1 Q E
def tMeth (C:Addr) (m:Str) (sp:Sp) (dvs:List V) (E:XK) (ta:TE) (t:TA):TE:=fun σ H Q=>ta σ H fun x H1=>∃ a dx fs,x = .ref a∧H1 a = some (.ins C dx fs)∧fs.lookup m = none ∧
  t σ H1 fun vs H2=>sp (x :: (vs ++ dvs)) H2 Q E
def tMake (C:Addr) (sp:Sp) (dvs:List V) (E:XK) (t:TA):TE:=fun σ H Q=>t σ H fun vs H1=>∀ x dx,H1 x = none→H1 dx = none→dx≠x →
  sp (.ref x :: (vs ++ dvs)) (upd (upd H1 dx (.own x)) x (.ins C dx [])) (fun v H2=>v = .non∧Q (.ref x) H2) E
def Binds (K:PySem.W.Frag) (fd:FuncData) (ps:List Str) (ds:List Value):Prop :=
  ∀ (s:Shared) (us:List Value),K.In s.heap→(us ++ ds).length = ps.length→BindsTo s fd ⟨us,[]⟩ (ps.zip (us ++ ds))
theorem Binds.all {K:PySem.W.Frag} {fd:FuncData} {ps:List Str} (h:∀ us:List Value,us.length = ps.length→bindArgs fd ⟨us,[]⟩ = pure (ps.zip us)):Binds K fd ps []:=fun s us _ hl=>by
  rw [List.append_nil] at hl ⊢
  exact .of_eq (h us hl)
def Passes (CX:CXT) (X:Cx) (E:XK):Prop:=∀ (pins:List (Addr×Obj)) (σ:St) (H:Hp) (s:Shared) (e:Value) (s':Shared),Inv X pins σ H s→CX X.stack H s E e s'→X.xe e s'
section
variable {X:Cx} {CX:CXT} {k:Nat} {f C:Addr} {fd:FuncData} {ps:List Str} {sp:Sp} {dvs:List V} {ds:List Value} {E:XK} {x m:Str} {p pos apos:Pos} {e o:Expr} {es:List Expr} {ta:TE} {t:TA}
theorem run_fn {pins:List (Addr×Obj)} {σ:St} {H:Hp} {s:Shared} {Q:VK} {us:List Value} {vs:List V} (F:FnOk X.prog X.w X.K X.mg X.base CX k f fd ps sp) (hr:Room k X.A) (hb:Binds X.K fd ps ds) (hd:Vals dvs ds) (hx:Passes CX X E)
    (I:Inv X pins σ H s) (r:Vals vs us) (h:sp (vs ++ dvs) H Q E):wpAny (model X.prog X.w) X.A (call (.ref f) us) (EP X pins σ Q) X.xe s:=by
  have r2:Vals (vs ++ dvs) (us ++ ds):=r.append hd
  have hl:(us ++ ds).length = ps.length:=by rw [← r2.length];exact F.len _ _ _ _ h
  refine wpAny_call (codeAny_mono (F.run X.A X.stack s H ⟨us,[]⟩ (us ++ ds) (vs ++ dvs) Q E hr I.env0 (hb s us I.kIn hl) r2 h) fun r s' hq=>?_)
  cases r with
  | error e=>exact hx pins σ H s e s' I hq
  | ok fl =>
    cases fl with
    | ret u=>exact I.after hq
    | next=>exact False.elim hq
    | brk=>exact False.elim hq
    | cont=>exact False.elim hq
theorem pe_call (F:FnOk X.prog X.w X.K X.mg X.base CX k f fd ps sp) (hr:Room k X.A) (hg:Gl X x) (hm:X.mg x = some (.ref f)) (hk:PySem.W.keepIn X.K (.ref f) = true) (hb:Binds X.K fd ps ds) (hd:Vals dvs ds) (hx:Passes CX X E)
    (ha:PA X (e :: es) t) (hdb:(x == ("__debug__":Str)) = false:=by decide) (he:starEach (e :: es) X.env = (false,eval e X.env) :: starEach es X.env:=by rfl) (hpl:(backTo pos (starEach es X.env)).any (·.1) = false:=by rfl) :
    PE X (.Call (.Name x p) (e :: es) [] pos) (tCall sp dvs E t):=by
  intro pins s σ H Q I h
  refine wpAny_Call_Name_kw (ld_glob I hg hm ?_ hdb)
  refine PySem.W.callWith_K (h₀:=X.base) I.ok.mod.kin hk (thn (ha pos pins s σ H _ I h) fun us s1 ⟨vs,H1,I1,r,q⟩=>⟨I1.kIn,?_⟩) he hpl
  exact run_fn F hr hb hd hx I1 r q
structure Mk (K:PySem.W.Frag) (C f:Addr):Prop where
  makes:PySem.W.makesIn K C = true
  init:PySem.W.findIn K (.ref C) "__init__" = some (some (.ref f))
  fn:PySem.W.isFn K (.ref f) = true
  kp:PySem.W.keepIn K (.ref C) = true
end
def PK (X:Cx) (kws:List Keyword) (t:TA):Prop :=
  ∀ (pos:Pos) (pins:List (Addr×Obj)) (s:Shared) (σ:St) (H:Hp) (Q:List V→Hp→Prop),Inv X pins σ H s→t σ H Q→wpAny (model X.prog X.w) X.A (evalAll ((backToKw pos (keywordEach kws X.env)).map (·.2))) (AP X pins σ Q) X.xe s
section
variable {X:Cx} {CX:CXT} {k:Nat} {f C:Addr} {fd:FuncData} {ps ks:List Str} {sp:Sp} {E:XK} {x m:Str} {p pos apos kpos:Pos} {e o:Expr} {es:List Expr} {kws:List Keyword} {te ta:TE} {t tk:TA} {nm:Option Str}
structure KBinds (K:PySem.W.Frag) (fd:FuncData) (ps ks:List Str) (g:List Value→List Value→List Value) (gV:List V→List V→List V):Prop where
  to:∀ (s:Shared) (us ws:List Value),K.In s.heap→(g us ws).length = ps.length→BindsTo s fd ⟨us,ks.zip ws⟩ (ps.zip (g us ws))
  rel:∀ {vs:List V} {us:List Value} {zs:List V} {ws:List Value},Vals vs us→Vals zs ws→Vals (gV vs zs) (g us ws)
def tCallK (sp:Sp) (gV:List V→List V→List V) (E:XK) (t tk:TA):TE:=fun σ H Q=>t σ H fun vs H1=>tk σ H1 fun zs H2=>sp (gV vs zs) H2 Q E
variable {g:List Value→List Value→List Value} {gV:List V→List V→List V}
end
structure FnScope (N P:List Str) (sc:Scope):Prop where
  kind:sc.kind = .function
  co:sc.isCoroutine = false
  gen:sc.isGenerator = false
  nd:N.Nodup
  pre:N.take P.length = P
  par:∀ x∈P,sc.names.lookup x = some .local∨sc.names.lookup x = some .cell
  nofree:∀ y∈sc.names,y.2≠.free
theorem bindL_out {kindOf:Str→Option NameKind} {x:Str}:∀ {binds:List (Str×Value)} {m:Str→Option Value},(∀ v,(x,v)∉binds)→bindL kindOf binds m x = m x
  | [],_,_=>rfl
  | (n,v) :: r,m,h=>by
    unfold bindL
    rw [bindL_out fun w hw=>h w (List.mem_cons_of_mem _ hw)]
    split
    · have:x≠n:=by rintro rfl;exact h v List.mem_cons_self
      simp [this]
    · rfl
theorem bindC_out {kindOf:Str→Option NameKind} {x:Str}:∀ {binds:List (Str×Value)} {m:Str→Option Value},(∀ v,(x,v)∉binds)→bindC kindOf binds m x = m x
  | [],_,_=>rfl
  | (n,v) :: r,m,h=>by
    unfold bindC
    rw [bindC_out fun w hw=>h w (List.mem_cons_of_mem _ hw)]
    split
    · rfl
    · have:x≠n:=by rintro rfl;exact h v List.mem_cons_self
      simp [this]
theorem bindL_get {kindOf:Str→Option NameKind} {x:Str} {v:Value}:∀ {P:List Str} {vs:List Value} {i:Nat} {m:Str→Option Value},P.Nodup→P[i]? = some x→vs[i]? = some v→kindOf x = some .local →
    bindL kindOf (P.zip vs) m x = some v
  | [],_,_,_,_,h,_,_=>by simp at h
  | _ :: _,[],_,_,_,_,h,_=>by simp at h
  | p :: P,w :: vs,0,m,nd,h1,h2,hk=>by
    simp at h1 h2;subst h1;subst h2
    show bindL kindOf ((p,w) :: P.zip vs) m p = _
    unfold bindL
    rw [bindL_out fun v hv=>(List.nodup_cons.mp nd).1 (List.of_mem_zip hv).1,if_pos hk]
    simp
  | p :: P,w :: vs,i + 1,m,nd,h1,h2,hk=>by
    show bindL kindOf ((p,w) :: P.zip vs) m x = _
    unfold bindL
    exact bindL_get (i:=i) (List.nodup_cons.mp nd).2 (by simpa using h1) (by simpa using h2) hk
theorem bindC_get {kindOf:Str→Option NameKind} {x:Str} {v:Value}:∀ {P:List Str} {vs:List Value} {i:Nat} {m:Str→Option Value},P.Nodup→P[i]? = some x→vs[i]? = some v→kindOf x≠some .local →
    bindC kindOf (P.zip vs) m x = some v
  | [],_,_,_,_,h,_,_=>by simp at h
  | _ :: _,[],_,_,_,_,h,_=>by simp at h
  | p :: P,w :: vs,0,m,nd,h1,h2,hk=>by
    simp at h1 h2;subst h1;subst h2
    show bindC kindOf ((p,w) :: P.zip vs) m p = _
    unfold bindC
    rw [bindC_out fun v hv=>(List.nodup_cons.mp nd).1 (List.of_mem_zip hv).1,if_neg hk]
    simp
  | p :: P,w :: vs,i + 1,m,nd,h1,h2,hk=>by
    show bindC kindOf ((p,w) :: P.zip vs) m x = _
    unfold bindC
    exact bindC_get (i:=i) (List.nodup_cons.mp nd).2 (by simpa using h1) (by simpa using h2) hk
def start (N:List Str) (vs:List V):St:=vs.map some ++ List.replicate (N.length - vs.length) none
def cxOf (CX:CXT) (P:Program) (w:World) (K:PySem.W.Frag) (mg:Str→Option Value) (base:Heap) (N:List Str) (qual:Str) (scope:Scope) (f:Addr) (cd:Value) (A:Around) (outer:List Env) (s:Shared) (H:Hp) (E:XK):Cx where
  prog:=P
  w:=w
  K:=K
  mg:=mg
  base:=base
  A:=A.deeper (envOfC qual scope s.heap.objs.size f cd)
  N:=N
  s₀:=s
  H₀:=H
  env:=envOfC qual scope s.heap.objs.size f cd
  outer:=outer
  stack:=envOfC qual scope s.heap.objs.size f cd :: outer
  ex:=[]
  calm:=true
  fn:=fun _=>true
  pn:=[]
  xe:=fun e s'=>wpAny (model P w) (A.deeper (envOfC qual scope s.heap.objs.size f cd)) (leaving (envOfC qual scope s.heap.objs.size f cd) e) (fun _ s''=>CX outer H s E e s'') (fun e' s''=>CX outer H s E e' s'') s'
theorem cell_has {sc:Scope} {n:Nat} {x:Str} (h:sc.names.lookup x = some .cell):∃ c,(cellsFrom n sc.names []).lookup x = some c:=by
  have q:=PySem.W.cellsFrom_some sc.names n [] (.inl h)
  exact Option.isSome_iff_exists.mp q
theorem inv_start {CX:CXT} {P:Program} {w:World} {K:PySem.W.Frag} {mg:Str→Option Value} {base:Heap} {N ps:List Str} {qual:Str} {scope:Scope} {f:Addr} {cd:Value} {A:Around} {outer:List Env} {s s1:Shared} {H:Hp} {E:XK} {us:List Value} {vs:List V}
    (S:FnScope N ps scope) (hd:A.handled = none) (e0:Env0 P w K mg base A outer s H) (hl:vs.length = ps.length) (r:Vals vs us)
    (x:InCallC s s.heap.objs.size (bindL (envOfC qual scope s.heap.objs.size f cd).kindOf (ps.zip us) fun _=>none) (cellsFrom (s.heap.objs.size + 1) scope.names []) (bindC (envOfC qual scope s.heap.objs.size f cd).kindOf (ps.zip us) fun _=>none) s1) :
    Inv (cxOf CX P w K mg base N qual scope f cd A outer s H E) [] (start N vs) H s1:=by
  have hpl:ps.length≤N.length:=by have:=congrArg List.length S.pre;rw [List.length_take] at this;omega
  obtain ⟨h1,tk,rfl,hk⟩:=x.done
  have noA:∀ b:Addr,b∉(cxOf CX P w K mg base N qual scope f cd A outer s H E).ex:=fun b z=>absurd (show b∈([]:List Addr) from z) (by simp)
  refine ⟨⟨e0.mod,S.kind,rfl,rfl,Nat.le_refl _,fun y z c h1 h2=>?_,fun y hy=>?_,fun y c _ h=>?_,fun _=>hd,Around.frames_deeper e0.frames,.inr ⟨rfl,rfl⟩,fun b z=>absurd z (noA b),e0.bs,e0.bsz,fun b _ _=>noA b,fun b z=>absurd z (noA b),e0.funs,e0.frf⟩,
    rfl,e0.bare,Un.kept hk,⟨_,x.toInCall.ns,fun i y v h1 h2 h3=>?_⟩,fun y c h=>⟨_,x.cell y c h⟩,e0.hok.fresh (Nat.le_refl _),fun y c h=>?_,fun p hp=>absurd (show p∈([]:List (Addr×Obj)) from hp) (by simp),e0.hok.kept hk,?_⟩
  · exact name_of_addr x.apart (PySem.mem_of_lookup h1) (PySem.mem_of_lookup h2)
  · have hy:scope.names.lookup y = some .cell∨scope.names.lookup y = some .free:=hy
    rcases hy with hy | hy
    · exact cell_has hy
    · exact absurd rfl (S.nofree _ (PySem.mem_of_lookup hy))
  · exact Nat.le_of_lt (x.above y c (PySem.mem_of_lookup h))
  · have hi:i < vs.length:=by
      unfold start at h2
      by_cases hi:i < vs.length
      · exact hi
      · rw [List.getElem?_append_right (by simpa using hi)] at h2
        rw [List.getElem?_replicate] at h2
        split at h2 <;> cases h2
    have ha:vs[i]? = some v:=by
      unfold start at h2
      rw [List.getElem?_append_left (by simpa using hi),List.getElem?_map] at h2
      cases e:vs[i]? with
      | none=>rw [e] at h2;cases h2
      | some a=>rw [e] at h2;cases h2;rfl
    obtain ⟨u,hu,rv⟩:=r.get ha
    have hp:ps[i]? = some y:=by
      rw [← S.pre,List.getElem?_take_of_lt (by omega)];exact h1
    have ndP:ps.Nodup:=by rw [← S.pre];exact S.nd.sublist (List.take_sublist _ _)
    refine ⟨u,rv,?_⟩
    rcases S.par y (List.mem_of_getElem? hp) with k | k
    · exact .inl ⟨k,bindL_get ndP hp hu k⟩
    · obtain ⟨c,e⟩:=cell_has (n:=s.heap.objs.size + 1) k
      refine .inr ⟨.inl k,c,e,?_⟩
      have q:=x.cell y c e
      rw [bindC_get ndP hp hu (by show scope.names.lookup y≠_;rw [k];decide)] at q
      exact q
  · exact e0.hok.fresh (Nat.le_of_lt (x.above y c (PySem.mem_of_lookup h)))
  · unfold start
    show _ = N.length
    rw [List.length_append,List.length_map,List.length_replicate]
    omega
theorem fn_of {CX:CXT} {P:Program} {w:World} {K:PySem.W.Frag} {mg:Str→Option Value} {base:Heap} {k:Nat} {f:Addr} {name qual:Str} {params:Arguments} {body:List Stmt} {scope:Scope} {dV kV doc pm cdv ct oc:Value} {an od:Option Addr}
    {osl:Array (Option Value)} {N ps:List Str} {sp:Sp} (lk:K.lookup f = some ⟨oc,od,.func (PySem.W.fnOf name qual params body scope dV kV doc pm an cdv ct),osl⟩) (hcd:PySem.W.codeIn K cdv qual = true) (S:FnScope N ps scope)
    (len:∀ vs H Q E,sp vs H Q E→vs.length = ps.length)
    (hbody:∀ (A:Around) (outer:List Env) (s:Shared) (H:Hp) (vs:List V) (Q:VK) (E:XK),Room k (A.deeper (envOfC qual scope s.heap.objs.size f cdv))→sp vs H Q E →
      ∃ t,PSs (cxOf CX P w K mg base N qual scope f cdv A outer s H E) body t∧t { nx:=fun _ H'=>Q .non H',rt:=Q } (start N vs) H) :
    FnOk P w K mg base CX (k + 1) f (PySem.W.fnOf name qual params body scope dV kV doc pm an cdv ct) ps sp:=by
  refine ⟨len,fun A outer s H args us vs Q E hr e0 hb r hsp=>?_⟩
  have hl:=len _ _ _ _ hsp
  have KX:K.In s.heap:=e0.mod.kin.keeps fun b o e=>(e0.bs b o e).1
  have lim:s.heap.NoLimit:=e0.mod.nolimit.keeps fun b o e=>(e0.bs b o e).1
  have hkind:∀ y∈ps.zip us,scope.names.lookup y.1 = some .local∨(scope.names.lookup y.1 = some .cell∧((cellsFrom (s.heap.objs.size + 1) scope.names []).lookup y.1).isSome = true):=fun ⟨n,v⟩ hy=>by
    rcases S.par n (List.of_mem_zip hy).1 with q | q
    · exact .inl q
    · exact .inr ⟨q,PySem.W.cellsFrom_some _ _ _ (.inl q)⟩
  refine codeAny_call_function hr.depth (KX _ _ lk) rfl S.co S.gen rfl (PySem.W.codeRec_of KX hcd) (hb _ _ _ _ ?_)
  refine wpAny_newFunctionEnv_cells S.kind hkind fun env he s1 x=>?_
  subst he
  refine ⟨lim.keeps x.toInCall.keep,codeAny_func ?_⟩
  obtain ⟨t,ht,hq⟩:=hbody A outer s H vs Q E (hr.deeper _) hsp
  have I:Inv (cxOf CX P w K mg base N qual scope f cdv A outer s H E) [] (start N vs) H s1:=inv_start S hr.hd e0 hl r x
  refine wpAny_mono (ht [] s1 (start N vs) H _ I hq) (fun fl s' hs=>?_) fun e s' hs=>hs
  have fin:∀ {σ':St} {H':Hp} {v:V} {u:Value},Inv (cxOf CX P w K mg base N qual scope f cdv A outer s H E) [] σ' H' s'→RelV v u→Q v H'→CE outer P w H s Q u s' :=
    fun {σ' H' v u} J rv q=>⟨v,H',J.os,J.bare,J.base,J.hok,rv,q⟩
  cases fl with
  | ret u =>
    obtain ⟨v,σ',H',J,rv,q⟩:=hs
    exact fin J rv q
  | next =>
    obtain ⟨σ',H',J,q⟩:=hs
    exact fin (v:=V.non) (u:=Value.none) J rfl q
  | brk =>
    obtain ⟨_,_,_,q⟩:=hs
    exact False.elim q
  | cont =>
    obtain ⟨_,_,_,q⟩:=hs
    exact False.elim q
end L2
namespace L2
open PySem PySem.Spec PyProof.Rows
section
variable {X:Cx} {x:Str} {p pos:Pos} {e:Expr} {es:List Expr} {t:TA} {id T:String} {r:List V→Hp→VK→Prop}
def tCB (r:List V→Hp→VK→Prop) (t:TA):TE:=fun σ H Q=>t σ H fun vs H1=>r vs H1 Q
theorem pe_callB (hc:CallR X (.builtin id) r) (hg:Gl X x) (hm:X.mg x = none) (hv:bootBuiltins x = some (.builtin id)) (ha:PA X (e :: es) t) (hn:x≠"__name__":=by decide) (hdb:(x == ("__debug__":Str)) = false:=by decide)
    (he:starEach (e :: es) X.env = (false,eval e X.env) :: starEach es X.env:=by rfl) (hpl:(backTo pos (starEach es X.env)).any (·.1) = false:=by rfl):PE X (.Call (.Name x p) (e :: es) [] pos) (tCB r t):=by
  intro pins s σ H Q I h
  refine wpAny_Call_Name_kw (ld_blt I hg hm hv ?_ hn hdb)
  exact PyProof.Rows.callWith_builtin1 (thn (ha pos pins s σ H _ I h) fun us s1 ⟨vs,H1,I1,r1,q1⟩=>hc pins s1 σ H1 vs us Q I1 r1 q1) he hpl
theorem pe_callTy (hc:CallR X (.type T) r) (hg:Gl X x) (hm:X.mg x = none) (hv:bootBuiltins x = some (.type T)) (ha:PA X (e :: es) t) (hn:x≠"__name__":=by decide) (hdb:(x == ("__debug__":Str)) = false:=by decide)
    (he:starEach (e :: es) X.env = (false,eval e X.env) :: starEach es X.env:=by rfl) (hpl:(backTo pos (starEach es X.env)).any (·.1) = false:=by rfl):PE X (.Call (.Name x p) (e :: es) [] pos) (tCB r t):=by
  intro pins s σ H Q I h
  refine wpAny_Call_Name_kw (ld_blt I hg hm hv ?_ hn hdb)
  exact PyProof.Rows.callWith_type1 (thn (ha pos pins s σ H _ I h) fun us s1 ⟨vs,H1,I1,r1,q1⟩=>hc pins s1 σ H1 vs us Q I1 r1 q1) he hpl
end
end L2
namespace HT
open PySem PyProof.Rows
def lexLt:List Int→List Int→Bool
  | [],[]=>false
  | [],_ :: _=>true
  | _ :: _,[]=>false
  | x :: xs,y :: ys=>if x = y then lexLt xs ys else decide (x < y)
section
open PySem.SeqAt
open PySem.AutoSeq1 (wpAny_loadPart')
open PySem.MeetsSeq PySem.MeetsSeq2 PySem.MeetsSeq3
end
section
variable {prog:Program} {w:World} {A:Around} {E:Value→Shared→Prop} {s:Shared}
def sIx (n d:Nat):Option Int→Nat
  | none=>d
  | some v=>if v < 0 then (v + (n:Int)).toNat else min v.toNat n
theorem sIx_none (n d:Nat):sIx n d none = d:=rfl
theorem sIx_nat (n d k:Nat):sIx n d (some (k:Int)) = min k n:=by
  show (if (k:Int) < 0 then ((k:Int) + (n:Int)).toNat else min (k:Int).toNat n) = min k n
  rw [if_neg (by omega),Int.toNat_natCast]
end
end HT
namespace L2
open PySem PySem.Spec PyProof.Rows
abbrev TO:=St→Hp→(Option Int→Hp→Prop)→Prop
def PO (X:Cx) (e:Option Expr) (t:TO):Prop :=
  ∀ (pins:List (Addr×Obj)) (s:Shared) (σ:St) (H:Hp) (Q:Option Int→Hp→Prop),Inv X pins σ H s→t σ H Q →
    wpAny (model X.prog X.w) X.A (evalPart e X.env) (fun u s'=>∃ o H',Inv X pins σ H' s'∧IsPart u o∧Q o H') X.xe s
def tNoPart:TO:=fun _ H Q=>Q none H
def tPart (t:TE):TO:=fun σ H Q=>t σ H fun x H1=>∃ i,x = .int i∧Q (some i) H1
section
variable {X:Cx} {e:Expr} {te:TE} {lo hi:Option Expr} {tl th:TO} {pos p2:Pos}
theorem po_none:PO X none tNoPart:=by
  intro pins s σ H Q I h
  rw [evalPart_none]
  exact wpAny_pure ⟨none,H,I,.none,h⟩
theorem po_some (h:PE X e te):PO X (some e) (tPart te):=by
  intro pins s σ H Q I hw
  rw [evalPart_some]
  refine thn (h pins s σ H _ I hw) fun u s1 ⟨x,H1,I1,r1,q1⟩=>?_
  obtain ⟨i,rfl,q⟩:=q1
  obtain ⟨t,rfl⟩:=r1
  exact ⟨some i,H1,I1,.int i t,q⟩
def SlR (X:Cx) (r:V→Option Int→Option Int→Hp→VK→Prop):Prop :=
  ∀ (pins:List (Addr×Obj)) (s:Shared) (σ:St) (H:Hp) (x:V) (v vl vu:Value) (lo hi:Option Int) (sl:Addr) (Q:VK),Inv X pins σ H s→RelV x v→s.heap.IsSliceOf sl vl vu .none→IsPart vl lo→IsPart vu hi→r x lo hi H Q →
    ∃ T id,typeLookup (.type T) "__getitem__" = pure (some (.builtin id))∧s.TypeIs v T∧wpAny (model X.prog X.w) X.A (getItem v (.ref sl)) (EP X pins σ Q) X.xe s
def tSl (r:V→Option Int→Option Int→Hp→VK→Prop) (te:TE) (tl th:TO):TE:=fun σ H Q=>te σ H fun x H1=>tl σ H1 fun l H2=>th σ H2 fun u H3=>r x l u H3 Q
theorem pe_slice {r:V→Option Int→Option Int→Hp→VK→Prop} (hr:SlR X r) (he:PE X e te) (hl:PO X lo tl) (hu:PO X hi th):PE X (.Subscript e (.Slice lo hi none p2) pos) (tSl r te tl th):=by
  intro pins s σ H Q I h
  refine Subscript_ (thn (he pins s σ H _ I h) fun v s1 ⟨x,H1,I1,r1,q1⟩=>?_)
  refine wpAny_Slice (thn (hl pins s1 σ H1 _ I1 q1) fun vl s2 ⟨l,H2,I2,pl,q2⟩=>thn (hu pins s2 σ H2 _ I2 q2) fun vu s3 ⟨u,H3,I3,pu,q3⟩=>?_)
  rw [evalPart_none]
  refine wpAny_pure ?_
  have I4:Inv X pins σ H3 { s3 with heap:=s3.heap.push { cls:=.type "slice",data:=.fields #[vl,vu,.none] } }:=I3.kept (t':=s3.toks) fun b ob q=>Heap.get?_push_of_some _ q
  obtain ⟨T,id,hT,ht,hg⟩:=hr pins { s3 with heap:=s3.heap.push { cls:=.type "slice",data:=.fields #[vl,vu,.none] } } σ H3 x v vl vu l u s3.heap.objs.size Q I4 r1 (Heap.IsSliceOf.new ..) pl pu q3
  show wpAny (model X.prog X.w) X.A (subscriptTail e (.Slice lo hi none p2) v (.ref s3.heap.objs.size)) (EP X pins σ Q) X.xe { s3 with heap:=s3.heap.push { cls:=.type "slice",data:=.fields #[vl,vu,.none] } }
  exact tail_any (ops:=[.ref s3.heap.objs.size,v]) ht hT hg (by with_unfolding_all rfl)
def cutV (xs:List V) (lo hi:Option Int):List V:=(xs.drop (HT.sIx xs.length 0 lo)).take (HT.sIx xs.length xs.length hi - HT.sIx xs.length 0 lo)
theorem cutV_length (xs:List V) (lo hi:Option Int):(cutV xs lo hi).length≤xs.length:=by
  unfold cutV
  rw [List.length_take,List.length_drop]
  omega
def rSlT (K:PySem.W.Frag):V→Option Int→Option Int→Hp→VK→Prop:=fun x lo hi H Q=>∃ a xs,x = .ref a∧SqT K H a xs ∧
  ¬ (HT.sIx xs.length 0 lo = 0∧HT.sIx xs.length xs.length hi = xs.length)∧∀ p,H p = none→Q (.ref p) (upd H p (.tup (cutV xs lo hi)))
def rLtT (K:PySem.W.Frag):R2:=fun x y H Q=>∃ a b ns ms,x = .ref a∧y = .ref b∧SqT K H a (ns.map V.int)∧SqT K H b (ms.map V.int)∧Q (.bl (HT.lexLt ns ms)) H
def rCatT (K:PySem.W.Frag):R2:=fun x y H Q=>∃ a b xs ys,x = .ref a∧y = .ref b∧SqT K H a xs∧SqT K H b ys∧xs≠[]∧xs.length + ys.length≤sizeLine ∧
  (ys = []→Q (.ref a) H)∧(ys≠[]→∀ p,H p = none→Q (.ref p) (upd H p (.tup (xs ++ ys))))
end
end L2
namespace L2
open PySem PySem.Spec PyProof.Rows
def ixN (n:Nat) (i:Int):Option Nat:=if 0≤i then (if i < n then some i.toNat else none) else if -(n:Int)≤i then some (i + n).toNat else none
def atI {α:Type} (xs:List α) (i:Int):Option α:=(ixN xs.length i).bind fun j=>xs[j]?
theorem ixN_seq {n:Nat} {i:Int} {j:Nat} (h:ixN n i = some j):seqIndex? i n = some j∧j < n∧-(n:Int)≤i∧i < n:=by
  unfold ixN at h
  by_cases h0:0≤i
  · rw [if_pos h0] at h
    by_cases h1:i < n
    · rw [if_pos h1] at h
      have e:i.toNat = j:=Option.some.inj h
      exact ⟨by rw [seqIndex_of h0 h1,e],by omega,by omega,h1⟩
    · rw [if_neg h1] at h;cases h
  · rw [if_neg h0] at h
    by_cases h1:-(n:Int)≤i
    · rw [if_pos h1] at h
      have e:(i + n).toNat = j:=Option.some.inj h
      exact ⟨by rw [seqIndex_neg (by omega) h1,e],by omega,h1,by omega⟩
    · rw [if_neg h1] at h;cases h
theorem atI_get {α:Type} {xs:List α} {i:Int} {v:α} (h:atI xs i = some v):∃ j,seqIndex? i xs.length = some j∧xs[j]? = some v∧j < xs.length∧-(xs.length:Int)≤i∧i < xs.length:=by
  unfold atI at h
  cases e:ixN xs.length i with
  | none=>rw [e] at h;cases h
  | some j =>
    rw [e] at h
    obtain ⟨h1,h2,h3,h4⟩:=ixN_seq e
    exact ⟨j,h1,h,h2,h3,h4⟩
theorem atI_nat {α:Type} {xs:List α} {j:Nat} {v:α} (h:xs[j]? = some v):atI xs (j:Int) = some v:=by
  have hj:j < xs.length:=(List.getElem?_eq_some_iff.mp h).1
  have e:ixN xs.length (j:Int) = some j:=by
    unfold ixN
    rw [if_pos (by omega),if_pos (by omega)];simp
  unfold atI;rw [e];exact h
def PlainIx (b:Expr):Prop:=∀ o i,subscripted b false o i = operate [o,i] (getItem o i)
def IxR (X:Cx) (r:R2):Prop :=
  ∀ (value slice:Expr) (pins:List (Addr×Obj)) (s:Shared) (σ:St) (H:Hp) (x y:V) (v u:Value) (Q:VK),Inv X pins σ H s→RelV x v→RelV y u→r x y H Q →
    subscripted slice false v u = operate [v,u] (getItem v u)→wpAny (model X.prog X.w) X.A (subscriptTail value slice v u) (EP X pins σ Q) X.xe s
def MtR (X:Cx) (id:String) (r:V→List V→Hp→VK→Prop):Prop :=
  ∀ (pins:List (Addr×Obj)) (s:Shared) (σ:St) (H:Hp) (x:V) (xs:List V) (v:Value) (us:List Value) (Q:VK),Inv X pins σ H s→RelV x v→Vals xs us→r x xs H Q →
    wpAny (model X.prog X.w) X.A (call (.builtin id) (v :: us)) (EP X pins σ Q) X.xe s
section
variable {X:Cx} {a b:Expr} {ta tb:TE} {pos:Pos}
theorem pe_ix {r:R2} (hr:IxR X r) (ha:PE X a ta) (hb:PE X b tb) (hs:PlainIx b):PE X (.Subscript a b pos) (tOp r ta tb):=by
  intro pins s σ H Q I h
  exact Subscript_ (binT ha hb I h fun v u s2 x y H2 I2 rx ry q=>hr a b pins s2 σ H2 x y v u Q I2 rx ry q (hs _ _))
inductive XIxL (K:PySem.W.Frag) (x y:V) (H:Hp) (Q:VK):Prop
  | mk (p:Addr) (xs:List V) (i:Int) (v:V):x = .ref p→y = .int i→SqL K H p xs→atI xs i = some v→Q v H→XIxL K x y H Q
inductive XIxT (K:PySem.W.Frag) (x y:V) (H:Hp) (Q:VK):Prop
  | mk (p:Addr) (xs:List V) (i:Int) (v:V):x = .ref p→y = .int i→SqT K H p xs→atI xs i = some v→Q v H→XIxT K x y H Q
def rIxL (K:PySem.W.Frag):R2:=fun x y H Q=>XIxL K x y H Q
def rIxT (K:PySem.W.Frag):R2:=fun x y H Q=>XIxT K x y H Q
def rIxS:R2:=fun x y H Q=>∃ z i c,x = .str z∧y = .int i∧z.length≤sizeLine∧atI z.cps.toList i = some c∧Q (.str ⟨#[c]⟩) H
theorem ix_list:IxR X (rIxL X.K):=by
  intro value slice pins s σ H x y v u Q I rx ry h hs
  obtain ⟨p,xs,i,z,rfl,rfl,hq,he,q⟩:=h
  cases rx
  obtain ⟨t,rfl⟩:=ry
  obtain ⟨its,r,pl,hz⟩:=I.list hq
  obtain ⟨j,h1,h2,h3,h4,h5⟩:=atI_get he
  obtain ⟨w,ew,rw'⟩:=r.get h2
  have hl:=r.length
  have hn:=line63
  have fin:EP X pins σ Q w s:=⟨z,H,I,rw',q⟩
  by_cases h0:0≤i
  · have hj:i.toNat = j:=by
      rw [seqIndex_of h0 h5] at h1
      exact Option.some.inj h1
    exact item_listR pl.isList h0 (by omega) (by rw [hj];simpa using ew) fin hs
  · have hj:(i + (its.toArray.size:Int)).toNat = j:=by
      rw [seqIndex_neg (by omega) h4] at h1
      rw [List.size_toArray,← hl]
      exact Option.some.inj h1
    exact subscriptTail_builtinR (x:=w) pl.isList.typeIs slot_list_getitem.lookup
      (wpAny_getItem_list_neg (Q:=fun r s'=>r = w∧EP X pins σ Q r s') pl.isList (by omega) (by rw [List.size_toArray] <;> omega) (by omega) (by rw [hj];simpa using ew) ⟨rfl,fin⟩) hs
theorem ix_tup:IxR X (rIxT X.K):=by
  intro value slice pins s σ H x y v u Q I rx ry h hs
  obtain ⟨p,xs,i,z,rfl,rfl,hq,he,q⟩:=h
  cases rx
  obtain ⟨t,rfl⟩:=ry
  obtain ⟨its,r,pl,hz⟩:=I.tuple hq
  obtain ⟨j,h1,h2,h3,h4,h5⟩:=atI_get he
  obtain ⟨w,ew,rw'⟩:=r.get h2
  have hl:=r.length
  have hn:=line63
  have fin:EP X pins σ Q w s:=⟨z,H,I,rw',q⟩
  exact subscriptTail_builtinR (x:=w) pl.typeIs slot_tuple_getitem.lookup
    (getItem_tuple (j:=j) (Q:=fun r s'=>r = w∧EP X pins σ Q r s') pl (by omega) (by omega) (by rw [List.size_toArray,← hl];exact h1) (by simpa using ew) ⟨rfl,fin⟩) hs
theorem ix_str:IxR X rIxS:=by
  intro value slice pins s σ H x y v u Q I rx ry h hs
  obtain ⟨z,i,c,rfl,rfl,hz,he,q⟩:=h
  obtain ⟨t,rfl⟩:=rx
  obtain ⟨t',rfl⟩:=ry
  obtain ⟨j,h1,h2,h3,h4,h5⟩:=atI_get he
  have hl:z.cps.toList.length = z.length:=by simp [Str.length]
  rw [hl] at h1 h4 h5
  have hn:=line63
  exact tail_any (typeIs_str s z t) slot_str_getitem.lookup (getItem_str (c:=c) (by
    have e1:decide (i < -(2 ^ 63:Int)) = false:=decide_eq_false (by omega)
    have e2:decide (i ≥ 2 ^ 63) = false:=decide_eq_false (by omega)
    rw [e1,e2,Bool.or_false]) (by rw [h1];simpa using h2) ⟨.str ⟨#[c]⟩,H,I.tok _,⟨_,rfl⟩,q⟩) hs
def rIx (K:PySem.W.Frag):R2:=fun x y H Q=>rIxL K x y H Q∨rIxT K x y H Q∨rIxS x y H Q
def rSetL:V→V→V→Hp→(Hp→Prop)→Prop:=fun o i v H Q=>∃ p xs k j,o = .ref p∧i = .int k∧H p = some (.lst xs)∧ixN xs.length k = some j∧Q (upd H p (.lst (xs.set j v)))
theorem slice_bounds (lo hi:Option Int) (n:Nat):(sliceBounds lo hi none n).1 = ((HT.sIx n 0 lo:Nat):Int)∧(sliceBounds lo hi none n).2.1 = ((HT.sIx n n hi:Nat):Int)∧(sliceBounds lo hi none n).2.2 = 1:=by
  refine ⟨?_,?_,rfl⟩
  · cases lo with
    | none=>simp [sliceBounds,HT.sIx]
    | some i =>
      simp only [sliceBounds,HT.sIx,Option.getD_none,show (1:Int) > 0 by decide,if_true]
      by_cases h:i < 0
      · simp only [h,if_true] <;> omega
      · simp only [h,if_false] <;> omega
  · cases hi with
    | none=>simp [sliceBounds,HT.sIx]
    | some i =>
      simp only [sliceBounds,HT.sIx,Option.getD_none,show (1:Int) > 0 by decide,if_true]
      by_cases h:i < 0
      · simp only [h,if_true] <;> omega
      · simp only [h,if_false] <;> omega
theorem slicePick_cut (its:List Value) (lo hi:Option Int):slicePick its.toArray lo hi none = ((its.drop (HT.sIx its.length 0 lo)).take (HT.sIx its.length its.length hi - HT.sIx its.length 0 lo)).toArray:=by
  obtain ⟨h1,h2,h3⟩:=slice_bounds lo hi its.toArray.size
  unfold slicePick
  rw [h1,h2,h3]
  simp only [sliceRange_one,pick_run,List.size_toArray] <;> rfl
def rSlL (K:PySem.W.Frag):V→Option Int→Option Int→Hp→VK→Prop:=fun x lo hi H Q=>∃ a xs,x = .ref a∧SqL K H a xs∧∀ p,H p = none→Q (.ref p) (upd H p (.lst (cutV xs lo hi)))
theorem sl_list:SlR X (rSlL X.K):=by
  intro pins s σ H x v vl vu lo hi sl Q I rx hs pl pu h
  obtain ⟨a,xs,rfl,hx,q⟩:=h
  cases rx
  obtain ⟨its,r,ht,hz⟩:=I.list hx
  have hlen:=r.length
  refine ⟨"list",_,slot_list_getitem.lookup,ht.isList.typeIs,?_⟩
  refine wpAny_getItem_list_slice ht.isList hs pl pu .none (by simp) ?_ (by rw [List.size_toArray] <;> omega)
  rw [slicePick_cut,← hlen]
  refine ⟨.ref s.heap.objs.size,_,I.laid (t':=s.toks) (o:=.lst (cutV xs lo hi)) (fun b ob q=>Heap.get?_push_of_some _ q) (Nat.le_refl _) ?_,rfl,q _ (I.hok.fresh (Nat.le_refl _))⟩
  exact ⟨Nat.le_trans (cutV_length xs lo hi) hz,_,0,(r.drop (HT.sIx xs.length 0 lo)).take (HT.sIx xs.length xs.length hi - HT.sIx xs.length 0 lo),Heap.get?_push_size _ rfl⟩
def flatV:V→Bool
  | .non=>true
  | .bl _=>true
  | .int _=>true
  | .str _=>true
  | _=>false
def eqV:V→V→Bool
  | .non,.non=>true
  | .bl a,.bl b=>a == b
  | .bl a,.int b=>(if a then 1 else 0) == b
  | .int a,.bl b=>a == (if b then 1 else 0)
  | .int a,.int b=>a == b
  | .str a,.str b=>a == b
  | _,_=>false
theorem eqAt_V {A:Around} {s:Shared} {y x:V} {u v:Value} (ry:RelV y u) (rx:RelV x v) (fy:flatV y = true) (fx:flatV x = true):SeqAt.EqAt A s u v (eqV y x):=by
  cases y with
  | non =>
    cases ry
    cases x with
    | non=>cases rx;exact SeqAt.EqAt.same _
    | bl b=>cases rx;exact SeqAt.EqAt.none_bool b
    | int b=>obtain ⟨t,rfl⟩:=rx;exact SeqAt.EqAt.none_int b t
    | str b=>obtain ⟨t,rfl⟩:=rx;exact SeqAt.EqAt.none_str b t
    | _=>exact absurd (show false = true from fx) Bool.false_ne_true
  | bl a =>
    cases ry
    cases x with
    | non=>cases rx;exact SeqAt.EqAt.bool_none a
    | bl b=>cases rx;exact SeqAt.EqAt.bool_bool a b
    | int b=>obtain ⟨t,rfl⟩:=rx;exact SeqAt.EqAt.bool_int a b t
    | str b=>obtain ⟨t,rfl⟩:=rx;exact SeqAt.EqAt.bool_str a b t
    | _=>exact absurd (show false = true from fx) Bool.false_ne_true
  | int a =>
    obtain ⟨t',rfl⟩:=ry
    cases x with
    | non=>cases rx;exact SeqAt.EqAt.int_none a t'
    | bl b=>cases rx;exact SeqAt.EqAt.int_bool a t' b
    | int b=>obtain ⟨t,rfl⟩:=rx;exact SeqAt.EqAt.int_int a t' b t
    | str b=>obtain ⟨t,rfl⟩:=rx;exact SeqAt.EqAt.int_str a t' b t
    | _=>exact absurd (show false = true from fx) Bool.false_ne_true
  | str a =>
    obtain ⟨t',rfl⟩:=ry
    cases x with
    | non=>cases rx;exact SeqAt.EqAt.str_none a t'
    | bl b=>cases rx;exact SeqAt.EqAt.str_bool a t' b
    | int b=>obtain ⟨t,rfl⟩:=rx;exact SeqAt.EqAt.str_int a t' b t
    | str b=>obtain ⟨t,rfl⟩:=rx;exact SeqAt.EqAt.str_str a t' b t
    | _=>exact absurd (show false = true from fx) Bool.false_ne_true
  | _=>exact absurd (show false = true from fy) Bool.false_ne_true
def eqU (x:V) (u:Value):Bool:=match u with
  | .none=>eqV .non x
  | .bool b=>eqV (.bl b) x
  | .int i _=>eqV (.int i) x
  | .str z _=>eqV (.str z) x
  | _=>false
theorem eqU_of {x y:V} {u:Value} (r:RelV y u) (f:flatV y = true):eqU x u = eqV y x:=by
  cases y with
  | non=>cases r;rfl
  | bl b=>cases r;rfl
  | int i=>obtain ⟨t,rfl⟩:=r;rfl
  | str z=>obtain ⟨t,rfl⟩:=r;rfl
  | _=>exact absurd (show false = true from f) Bool.false_ne_true
theorem any_eqU {x:V}:∀ {xs:List V} {us:List Value},Vals xs us→xs.all flatV = true→us.any (eqU x) = xs.any fun y=>eqV y x
  | _,_,.nil,_=>rfl
  | y :: xs,u :: us,.cons r t,f=>by
    rw [List.all_cons,Bool.and_eq_true] at f
    rw [List.any_cons,List.any_cons,eqU_of r f.1,any_eqU t f.2]
theorem mem_eqAt {A:Around} {s:Shared} {x:V} {v:Value} (rx:RelV x v) (fx:flatV x = true):∀ {xs:List V} {us:List Value},Vals xs us→xs.all flatV = true→∀ u∈us,SeqAt.EqAt A s u v (eqU x u)
  | _,_,.nil,_=>fun u hu=>by cases hu
  | y :: xs,u :: us,.cons r t,f=>fun u' hu=>by
    rw [List.all_cons,Bool.and_eq_true] at f
    rcases List.mem_cons.mp hu with rfl | hu
    · rw [eqU_of r f.1];exact eqAt_V r rx f.1 fx
    · exact mem_eqAt rx fx t f.2 u' hu
def inV (x:V) (xs:List V):Bool:=xs.any fun y=>eqV y x
inductive XIn (K:PySem.W.Frag) (neg:Bool) (x y:V) (H:Hp) (Q:VK):Prop
  | mk (p:Addr) (xs:List V):y = .ref p→(SqL K H p xs∨SqT K H p xs)→flatV x = true→xs.all flatV = true→Q (.bl (if neg then !inV x xs else inV x xs)) H→XIn K neg x y H Q
def rIn (K:PySem.W.Frag) (neg:Bool):R2:=fun x y H Q=>XIn K neg x y H Q
theorem op_in_seq:OpR X (compareOp .In) (rIn X.K false):=by
  intro pins s σ H x y v u Q I rx ry h
  obtain ⟨p,xs,rfl,hq,fx,fs,q⟩:=h
  cases ry
  rcases hq with hq | hq
  · obtain ⟨its,r,pl,hz⟩:=I.list hq
    refine SeqAt.in_listAt (eqU x) pl.isList (fun w hw=>mem_eqAt rx fx r fs w (by simpa using hw)) ⟨.bl _,H,I,rfl,?_⟩
    rw [show its.toArray.any (eqU x) = its.any (eqU x) by simp,any_eqU r fs]
    exact q
  · obtain ⟨its,r,pl,hz⟩:=I.tuple hq
    refine SeqAt.in_tupleAt (eqU x) pl (fun w hw=>mem_eqAt rx fx r fs w (by simpa using hw)) ⟨.bl _,H,I,rfl,?_⟩
    rw [show its.toArray.any (eqU x) = its.any (eqU x) by simp,any_eqU r fs]
    exact q
theorem op_notIn_seq:OpR X (compareOp .NotIn) (rIn X.K true):=by
  intro pins s σ H x y v u Q I rx ry h
  obtain ⟨p,xs,rfl,hq,fx,fs,q⟩:=h
  cases ry
  rcases hq with hq | hq
  · obtain ⟨its,r,pl,hz⟩:=I.list hq
    refine SeqAt.notIn_listAt (eqU x) pl.isList (fun w hw=>mem_eqAt rx fx r fs w (by simpa using hw)) ⟨.bl _,H,I,rfl,?_⟩
    rw [show its.toArray.any (eqU x) = its.any (eqU x) by simp,any_eqU r fs]
    exact q
  · obtain ⟨its,r,pl,hz⟩:=I.tuple hq
    refine SeqAt.notIn_tupleAt (eqU x) pl (fun w hw=>mem_eqAt rx fx r fs w (by simpa using hw)) ⟨.bl _,H,I,rfl,?_⟩
    rw [show its.toArray.any (eqU x) = its.any (eqU x) by simp,any_eqU r fs]
    exact q
def tyV (K:PySem.W.Frag) (T:String) (x:V) (H:Hp):Prop:=match x with
  | .str _=>T = "str"
  | .int _=>T = "int"
  | .ref p=>(T = "list"∧∃ xs,SqL K H p xs)∨(T = "tuple"∧∃ o,K.lookup p = some o∧o.cls = .type "tuple"∧o.dict = none) ∨
      (T = "dict"∧((∃ kvs,H p = some (.dK kvs))∨∃ kvs,H p = some (.dT kvs)))∨(T = "set"∧∃ S n,H p = some (.set S n))
  | _=>False
theorem tyV_is {pins:List (Addr×Obj)} {σ:St} {H:Hp} {s:Shared} {T:String} {x:V} {v:Value} (I:Inv X pins σ H s) (r:RelV x v) (ty:tyV X.K T x H) :
    s.TypeIs v T∧∀ a,v = .ref a→∃ ob,s.heap.get? a = some ob∧ob.dict = none:=by
  cases x with
  | str z =>
    obtain ⟨t,rfl⟩:=r
    cases (show T = "str" from ty)
    exact ⟨typeIs_str s z t,fun _ e=>nomatch e⟩
  | int i =>
    obtain ⟨t,rfl⟩:=r
    cases (show T = "int" from ty)
    exact ⟨typeIs_int s i t,fun _ e=>nomatch e⟩
  | ref p =>
    cases r
    rcases ty with ⟨rfl,xs,hq⟩ | ⟨rfl,o,hk,hc,hd⟩ | ⟨rfl,hk⟩ | ⟨rfl,S,n,hk⟩
    · obtain ⟨its,_,pl,_⟩:=I.list hq
      refine ⟨pl.isList.typeIs,fun a e=>?_⟩
      cases e
      obtain ⟨o,n,e,c,hd,_⟩:=pl
      exact ⟨o,e,hd⟩
    · refine ⟨⟨o,I.kIn p o hk,hc⟩,fun a e=>?_⟩
      cases e
      exact ⟨o,I.kIn _ o hk,hd⟩
    · have z:∃ o,s.heap.get? p = some o∧o.ExactDict:=by
        rcases hk with ⟨kvs,hk⟩ | ⟨kvs,hk⟩
        · obtain ⟨_,_,_,_,o,_,_,e,ex,_⟩:=I.hok p _ hk
          exact ⟨o,e,ex⟩
        · obtain ⟨_,_,_,_,o,_,_,e,ex,_⟩:=I.hok p _ hk
          exact ⟨o,e,ex⟩
      obtain ⟨o,e,ex⟩:=z
      refine ⟨⟨o,e,ex.1⟩,fun a e2=>?_⟩
      cases e2
      exact ⟨o,e,ex.2.1⟩
    · obtain ⟨o,_,_,_,e,ex,_⟩:=I.hok p _ hk
      refine ⟨⟨o,e,ex.1⟩,fun a e2=>?_⟩
      cases e2
      exact ⟨o,e,ex.2.1⟩
  | _=>exact False.elim ty
def tBM0 (K:PySem.W.Frag) (T:String) (r:V→List V→Hp→VK→Prop) (to:TE):TE:=fun σ H Q=>to σ H fun x H1=>tyV K T x H1∧r x [] H1 Q
def tBM (K:PySem.W.Frag) (T:String) (r:V→List V→Hp→VK→Prop) (to:TE) (t:TA):TE:=fun σ H Q=>to σ H fun x H1=>tyV K T x H1∧t σ H1 fun xs H2=>r x xs H2 Q
variable {o e:Expr} {es:List Expr} {to:TE} {t:TA} {name:Str} {apos cpos:Pos} {T id:String} {r:V→List V→Hp→VK→Prop}
theorem pe_bm0 (pa:PlainAttrs T) (slot:Slot T name id) (hty:typeOf (.builtin id) = pure (.type "method_descriptor")) (hm:MtR X id r) (ho:PE X o to)
    (hbase:attributeBase o name X.env (eval o X.env) = eval o X.env:=by rfl) (hline:(apos.endLine == cpos.line) = true:=by rfl):PE X (.Call (.Attribute o name apos) [] [] cpos) (tBM0 X.K T r to):=by
  intro pins s σ H Q I h
  refine wpAny_Call_method0_late hbase hline (thn (ho pins s σ H _ I h) fun v s1 ⟨x,H1,I1,r1,ty,q1⟩=>?_)
  obtain ⟨h1,h2⟩:=tyV_is I1 r1 ty
  exact ⟨T,id,pa,slot,hty,h1,h2,Calls.callWith_builtin rfl (PySem.evalArgs_none (hm pins s1 σ H1 x [] v [] Q I1 r1 .nil q1))⟩
theorem pe_bm (pa:PlainAttrs T) (slot:Slot T name id) (hty:typeOf (.builtin id) = pure (.type "method_descriptor")) (hm:MtR X id r) (ho:PE X o to) (ha:PA X (e :: es) t)
    (hbase:attributeBase o name X.env (eval o X.env) = eval o X.env:=by rfl)
    (hfew:((backTo cpos (starEach (e :: es) X.env)).all (fun x=>!x.1) && (backToKw cpos (keywordEach [] X.env)).all (fun x=>x.1.isSome)
      && decide ((e :: es).length + ([]:List Keyword).length + (if ([]:List Keyword).isEmpty then 0 else 1) < 30)) = true:=by rfl)
    (hline:(apos.endLine == cpos.line) = true:=by rfl) (hs:starEach (e :: es) X.env = (false,eval e X.env) :: starEach es X.env:=by rfl) (hplain:(backTo cpos (starEach es X.env)).any (·.1) = false:=by rfl) :
    PE X (.Call (.Attribute o name apos) (e :: es) [] cpos) (tBM X.K T r to t):=by
  intro pins s σ H Q I h
  refine wpAny_Call_method_late hbase hfew hline rfl (thn (ho pins s σ H _ I h) fun v s1 ⟨x,H1,I1,r1,ty,q1⟩=>?_)
  obtain ⟨h1,h2⟩:=tyV_is I1 r1 ty
  refine ⟨T,id,pa,slot,hty,h1,h2,?_⟩
  have hA:=ha cpos pins s1 σ H1 _ I1 q1
  rw [hs] at hA ⊢
  refine Calls.callWith_builtin (by show (false || (backTo cpos (starEach es X.env)).any (·.1)) = false;rw [hplain] <;> rfl) (Calls.evalArgs_plain ?_)
  exact thn hA fun us s2 ⟨vs,H2,I2,r2,q2⟩=>hm pins s2 σ H2 x vs v us Q I2 r1 r2 q2
end
end L2
namespace L2
open PySem PySem.Spec PyProof.Rows
def MtM (X:Cx) (id:String) (r:V→List V→Hp→VK→Prop):Prop :=
  ∀ (pins:List (Addr×Obj)) (s:Shared) (σ:St) (H:Hp) (x:V) (xs:List V) (v:Value) (us:List Value) (Q:VK),Inv X pins σ H s→RelV x v→Vals xs us→r x xs H Q →
    wpAny (model X.prog X.w) X.A (call (.builtin id) (v :: us)) (EP X pins σ Q) X.xe s
theorem Vals.one:∀ {x:V} {us:List Value},Vals [x] us→∃ u,us = [u]∧RelV x u
  | _,_,.cons r .nil=>⟨_,rfl,r⟩
theorem Vals.eraseIdx:∀ {xs:List V} {us:List Value} (i:Nat),Vals xs us→Vals (xs.eraseIdx i) (us.eraseIdx i)
  | _,_,_,.nil=>.nil
  | _,_,0,.cons _ t=>t
  | _,_,i + 1,.cons r t=>.cons r (Vals.eraseIdx i t)
theorem len_erase {α:Type}:∀ (l:List α) (i:Nat),(l.eraseIdx i).length≤l.length
  | [],_=>Nat.le_refl _
  | _ :: _,0=>Nat.le_succ _
  | _ :: r,i + 1=>Nat.succ_le_succ (len_erase r i)
section
variable {X:Cx} {pins:List (Addr×Obj)} {σ:St} {H:Hp} {s:Shared} {l b:Addr} {xs ys zs:List V}
theorem Inv.lset {its its':List Value} {n:Nat} {f:Array Value→Array Value} {t':Nat} (I:Inv X pins σ H s) (hH:H l = some (.lst xs))
    (e:s.heap.get? l = some { cls:=.type "list",data:=.seq its.toArray n }) (hf:f its.toArray = its'.toArray) (hv:Vals ys its') (hz:ys.length≤sizeLine) :
    Inv X pins σ (upd H l (.lst ys)) { s with heap:=s.heap.update l (Obj.mapSeq f),toks:=t' }:=by
  have q:=PySem.IsL.update e f
  rw [hf] at q
  refine I.write (x:=l) (e:=l) (by rw [hH];exact trivial) (.inl rfl) (fun b' u hb hu=>(Heap.get?_update_other s.heap (Obj.mapSeq f) (Ne.symm hb)).trans hu) ⟨_,q⟩ ?_
  exact ⟨hz,its',_,hv,q⟩
theorem Inv.lnew {its:List Value} {t':Nat} (I:Inv X pins σ H s) (hv:Vals ys its) (hz:ys.length≤sizeLine) :
    Inv X pins σ (upd H s.heap.objs.size (.lst ys)) { s with heap:=s.heap.push { cls:=.type "list",data:=.seq its.toArray },toks:=t' } :=
  I.laid (fun _ _ q=>Heap.get?_push_of_some _ q) (Nat.le_refl _) ⟨hz,its,0,hv,Heap.get?_push_size _ rfl⟩
theorem Inv.fresh (I:Inv X pins σ H s):H s.heap.objs.size = none:=I.hok.fresh (Nat.le_refl _)
theorem Inv.lstM (I:Inv X pins σ H s) (hH:H l = some (.lst xs)):xs.length≤sizeLine∧∃ (its:List Value) (n:Nat),Vals xs its∧xs.length = its.length∧s.heap.get? l = some { cls:=.type "list",data:=.seq its.toArray n }:=by
  obtain ⟨z,its,n,r,e⟩:=I.hok l _ hH
  exact ⟨z,its,n,r,r.length,e⟩
end
section
variable {X:Cx}
def rAppend:V→List V→Hp→VK→Prop:=fun x vs H Q=>∃ l xs y,x = .ref l∧vs = [y]∧H l = some (.lst xs)∧xs.length < sizeLine∧Q .non (upd H l (.lst (xs ++ [y])))
theorem mt_append:MtM X "list.append" rAppend:=by
  intro pins s σ H x vs v us Q I rx rv h
  obtain ⟨l,xs,y,rfl,rfl,hH,hz,q⟩:=h
  cases rx
  obtain ⟨u,rfl,ru⟩:=rv.one
  obtain ⟨z,its,n,r,hl,e⟩:=I.lstM hH
  refine call_meets F.slot_list_append ⟨_,e,rfl⟩ F.entry_list_append (F.args_list_append_2 _ _) (PySem.list_append l its.toArray n u (by rw [List.size_toArray];omega)) ⟨e,?_⟩
  refine ⟨.non,_,I.lset (its':=its ++ [u]) hH e (by simp) (r.append (.cons ru .nil)) ?_,rfl,q⟩
  rw [List.length_append,List.length_singleton]
  omega
def rExtend:V→List V→Hp→VK→Prop:=fun x vs H Q=>∃ l b xs zs,x = .ref l∧vs = [.ref b]∧H l = some (.lst xs)∧H b = some (.lst zs)∧xs.length + zs.length≤sizeLine∧Q .non (upd H l (.lst (xs ++ zs)))
def rPop:V→List V→Hp→VK→Prop:=fun x vs H Q=>∃ l xs y,x = .ref l∧vs = []∧H l = some (.lst xs)∧xs[xs.length - 1]? = some y∧Q y (upd H l (.lst xs.dropLast))
def rPopAt:V→List V→Hp→VK→Prop:=fun x vs H Q=>∃ l xs i k y,x = .ref l∧vs = [.int i]∧H l = some (.lst xs)∧-(2 ^ 63)≤i∧i < 2 ^ 63∧seqIndex? i xs.length = some k∧xs[k]? = some y∧Q y (upd H l (.lst (xs.eraseIdx k)))
theorem mt_popAt:MtM X "list.pop" rPopAt:=by
  intro pins s σ H x vs v us Q I rx rv h
  obtain ⟨l,xs,i,k,y,rfl,rfl,hH,h1,h2,hk,hy,q⟩:=h
  cases rx
  obtain ⟨u,rfl,ru⟩:=rv.one
  obtain ⟨t,rfl⟩:=ru
  obtain ⟨z,its,n,r,hl,e⟩:=I.lstM hH
  obtain ⟨w,hw,rw'⟩:=r.get hy
  refine call_meets F.slot_list_pop ⟨_,e,rfl⟩ F.entry_list_pop (F.args_list_pop_2 _ _)
    (MeetsSeq.list_pop_at l its.toArray n i t k w (fitsIndex_both h1 h2) (by rw [List.size_toArray,← hl];exact hk) (by rw [← Array.getElem?_toList];exact hw) (by rw [List.size_toArray];omega)) ⟨e,?_⟩
  refine ⟨y,_,I.lset (its':=its.eraseIdx k) hH e ?_ (r.eraseIdx k) ?_,rw',q⟩
  · show its.toArray.eraseIdxIfInBounds k = (its.eraseIdx k).toArray
    rw [List.eraseIdxIfInBounds_toArray]
  · have:=len_erase xs k
    omega
def rReverse:V→List V→Hp→VK→Prop:=fun x vs H Q=>∃ l xs,x = .ref l∧vs = []∧H l = some (.lst xs)∧Q .non (upd H l (.lst xs.reverse))
def rClear:V→List V→Hp→VK→Prop:=fun x vs H Q=>∃ l xs,x = .ref l∧vs = []∧H l = some (.lst xs)∧Q .non (upd H l (.lst []))
def rCat:R2:=fun x y H Q=>∃ l b xs zs,x = .ref l∧y = .ref b∧H l = some (.lst xs)∧H b = some (.lst zs)∧xs.length + zs.length≤sizeLine∧∀ p,H p = none→Q (.ref p) (upd H p (.lst (xs ++ zs)))
def rRep:R2:=fun x y H Q=>∃ l k xs,x = .ref l∧y = .int k∧H l = some (.lst xs)∧-(2 ^ 63)≤k∧k < 2 ^ 63∧xs.length * k.toNat≤sizeLine ∧
  ∀ p,H p = none→Q (.ref p) (upd H p (.lst (List.replicate k.toNat xs).flatten))
end
section
variable {prog:Program} {w:World} {A:Around} {E:Value→Shared→Prop} {s:Shared}
end
section
variable {X:Cx}
end
end L2
namespace L2
open PySem PySem.Spec PyProof.Rows
section
variable {κ:Type} [DecidableEq κ]
def valV (kvs:List (κ×V)) (k:κ):Option V:=(kvs.find? fun kv=>decide (kv.1 = k)).map (·.2)
def putK (kvs:List (κ×V)) (k:κ) (v:V):List (κ×V) :=
  if (kvs.any fun kv=>decide (kv.1 = k)) = true then kvs.map (fun kv=>if kv.1 = k then (kv.1,v) else kv) else kvs ++ [(k,v)]
def dropK (kvs:List (κ×V)) (k:κ):List (κ×V):=kvs.filter fun kv=>decide (kv.1≠k)
theorem valV_pos {p:κ×V} {r:List (κ×V)} {k:κ} (e:p.1 = k):valV (p :: r) k = some p.2:=by simp [valV,List.find?_cons,e]
theorem valV_neg {p:κ×V} {r:List (κ×V)} {k:κ} (e:¬ p.1 = k):valV (p :: r) k = valV r k:=by simp [valV,List.find?_cons,e]
theorem valV_any (k:κ):∀ kvs:List (κ×V),(kvs.any fun kv=>decide (kv.1 = k)) = (valV kvs k).isSome
  | []=>rfl
  | p :: r=>by
    rw [List.any_cons]
    by_cases e:p.1 = k
    · simp only [valV_pos e,decide_eq_true e,Bool.true_or,Option.isSome_some]
    · rw [valV_neg e,decide_eq_false e,Bool.false_or];exact valV_any k r
theorem valV_map (k j:κ) (y:V):∀ kvs:List (κ×V),valV (kvs.map fun kv=>if kv.1 = k then (kv.1,y) else kv) j = (valV kvs j).map fun x=>if j = k then y else x
  | []=>rfl
  | p :: r=>by
    have ih:=valV_map k j y r
    rw [List.map_cons]
    by_cases h:p.1 = k
    · rw [if_pos h]
      by_cases e:p.1 = j
      · rw [valV_pos (p:=(p.1,y)) e,valV_pos e,Option.map_some,if_pos (e.symm.trans h)]
      · rw [valV_neg (p:=(p.1,y)) e,valV_neg e,ih]
    · rw [if_neg h]
      by_cases e:p.1 = j
      · rw [valV_pos (p:=p) e,valV_pos e,Option.map_some,if_neg (fun z=>h (e.trans z))]
      · rw [valV_neg (p:=p) e,valV_neg e,ih]
theorem valV_snoc (k j:κ) (y:V):∀ kvs:List (κ×V),valV kvs k = none→valV (kvs ++ [(k,y)]) j = if j = k then some y else valV kvs j
  | [],_=>by
    by_cases e:k = j
    · rw [if_pos e.symm];exact valV_pos (p:=(k,y)) e
    · rw [if_neg (fun z=>e z.symm)];exact valV_neg (p:=(k,y)) e
  | p :: r,hn=>by
    rw [List.cons_append]
    have hk:¬ p.1 = k:=fun z=>by rw [valV_pos z] at hn;cases hn
    rw [valV_neg hk] at hn
    have ih:=valV_snoc k j y r hn
    by_cases e:p.1 = j
    · rw [valV_pos e,valV_pos e,if_neg (fun z=>hk (e.trans z))]
    · rw [valV_neg e,valV_neg e,ih]
theorem valV_put (kvs:List (κ×V)) (k j:κ) (y:V):valV (putK kvs k y) j = if j = k then some y else valV kvs j:=by
  unfold putK
  by_cases a:(kvs.any fun kv=>decide (kv.1 = k)) = true
  · rw [if_pos a,valV_map]
    rw [valV_any] at a
    by_cases e:j = k
    · obtain ⟨x,hx⟩:=Option.isSome_iff_exists.mp a
      rw [if_pos e,e,hx,Option.map_some,if_pos rfl]
    · rw [if_neg e]
      cases valV kvs j with
      | none=>rfl
      | some x=>rw [Option.map_some,if_neg e]
  · rw [if_neg a]
    refine valV_snoc k j y kvs ?_
    rw [valV_any] at a
    cases q:valV kvs k with
    | none=>rfl
    | some x=>rw [q] at a;exact (a rfl).elim
theorem length_putK (kvs:List (κ×V)) (k:κ) (v:V):(putK kvs k v).length≤kvs.length + 1:=by
  unfold putK
  split
  · rw [List.length_map];omega
  · rw [List.length_append,List.length_cons,List.length_nil];omega
theorem putK_new {kvs:List (κ×V)} {k:κ} (v:V) (h:valV kvs k = none):putK kvs k v = kvs ++ [(k,v)]:=by
  unfold putK
  rw [valV_any,h]
  exact if_neg (by decide)
theorem RelO.isSome_eq {o:Option V} {u:Option Value} (r:RelO o u):o.isSome = u.isSome:=by
  cases o with
  | none=>cases u with
    | none=>rfl
    | some _=>exact (show False from r).elim
  | some _=>cases u with
    | none=>exact (show False from r).elim
    | some _=>rfl
theorem RelO.getD {o:Option V} {u:Option Value} {d:V} {d':Value} (r:RelO o u) (rd:RelV d d'):RelV (o.getD d) (u.getD d'):=by
  cases o with
  | none=>cases u with
    | none=>exact rd
    | some _=>exact (show False from r).elim
  | some _=>cases u with
    | none=>exact (show False from r).elim
    | some _=>exact r
theorem KV.val {kvs:List (κ×V)} {vs:List (κ×Value)} (r:KV kvs vs) (k:κ):RelO (valV kvs k) (valueAt vs k):=by
  unfold KV at r
  induction r with
  | nil=>exact True.intro
  | @cons p q ps qs h t ih =>
    obtain ⟨h1,h2⟩:=h
    by_cases e:p.1 = k
    · have e':q.1 = k:=h1.symm.trans e
      have b:valueAt (q :: qs) k = some q.2:=by simp [valueAt,List.find?_cons,e']
      rw [valV_pos e,b];exact h2
    · have e':¬ q.1 = k:=fun z=>e (h1.trans z)
      have b:valueAt (q :: qs) k = valueAt qs k:=by simp [valueAt,List.find?_cons,e']
      rw [valV_neg e,b];exact ih
theorem KV.any {kvs:List (κ×V)} {vs:List (κ×Value)} (r:KV kvs vs) (k:κ):(kvs.any fun kv=>decide (kv.1 = k)) = vs.any fun kv=>decide (kv.1 = k):=by
  unfold KV at r
  induction r with
  | nil=>rfl
  | cons h t ih=>rw [List.any_cons,List.any_cons,ih,h.1]
theorem KV.repl {kvs:List (κ×V)} {vs:List (κ×Value)} (r:KV kvs vs) (k:κ) {y:V} {u:Value} (ry:RelV y u) :
    KV (kvs.map fun kv=>if kv.1 = k then (kv.1,y) else kv) (vs.map fun kv=>if kv.1 = k then (kv.1,u) else kv):=by
  unfold KV at r ⊢
  induction r with
  | nil=>exact .nil
  | @cons p q ps qs h t ih =>
    rw [List.map_cons,List.map_cons]
    refine .cons ?_ ih
    obtain ⟨h1,h2⟩:=h
    by_cases e:p.1 = k
    · rw [if_pos e,if_pos (h1.symm.trans e)];exact ⟨h1,ry⟩
    · rw [if_neg e,if_neg (fun z=>e (h1.trans z))];exact ⟨h1,h2⟩
theorem KV.put {kvs:List (κ×V)} {vs:List (κ×Value)} (r:KV kvs vs) (k:κ) {y:V} {u:Value} (ry:RelV y u):KV (putK kvs k y) (stored vs k u):=by
  unfold putK stored
  rw [r.any k]
  by_cases e:(vs.any fun kv=>decide (kv.1 = k)) = true
  · rw [if_pos e,if_pos e];exact r.repl k ry
  · rw [if_neg e,if_neg e];exact Paired.snoc r ⟨rfl,ry⟩
theorem KV.length {kvs:List (κ×V)} {vs:List (κ×Value)} (r:KV kvs vs):kvs.length = vs.length:=Paired.length r
end
theorem kV_is {P:Program} {w:World} {k:Key} {u:Value} (r:RelV (kV k) u):(mixKind P w).is k u = true:=by
  cases k with
  | inl i=>obtain ⟨t,e⟩:=(show ∃ t,u = Value.int i t from r);subst e;exact mixKind_int P w i t
  | inr x=>obtain ⟨t,e⟩:=(show ∃ t,u = Value.str x t from r);subst e;exact mixKind_str P w x t
theorem items_are {P:Program} {w:World}:∀ {ks:List Key} {us:List Value},Vals (ks.map kV) us→ItemsAre (mixKind P w) ks us
  | [],_,r=>by rw [List.map_nil] at r;cases r;exact .nil
  | k :: ks,_,r=>by
    rw [List.map_cons] at r
    cases r with
    | cons h t=>exact .cons (kV_is h) (items_are t)
abbrev KT (H:Hp):List (List Key×V)→List (List Key×Addr×Value)→Prop:=Paired fun p q=>p.1 = q.1∧H q.2.1 = some (.tup (p.1.map kV))∧RelV p.2 q.2.2
theorem KT.val {H:Hp} {kvs:List (List Key×V)} {xs:List (List Key×Addr×Value)} (r:KT H kvs xs) (k:List Key):RelO (valV kvs k) ((atKey xs k).map (·.2)):=by
  induction r with
  | nil=>exact True.intro
  | @cons p q ps qs h t ih =>
    obtain ⟨h1,_,h2⟩:=h
    by_cases e:p.1 = k
    · have e':q.1 = k:=h1.symm.trans e
      have b:atKey (q :: qs) k = some q.2:=by simp [atKey,List.find?_cons,e']
      rw [valV_pos e,b];exact h2
    · have e':¬ q.1 = k:=fun z=>e (h1.trans z)
      have b:atKey (q :: qs) k = atKey qs k:=by simp [atKey,List.find?_cons,e']
      rw [valV_neg e,b];exact ih
theorem KT.repl {H:Hp} {kvs:List (List Key×V)} {xs:List (List Key×Addr×Value)} (r:KT H kvs xs) (k:List Key) {y:V} {u:Value} (ry:RelV y u) :
    KT H (kvs.map fun kv=>if kv.1 = k then (kv.1,y) else kv) (xs.map (putAt k u)):=by
  induction r with
  | nil=>exact .nil
  | @cons p q ps qs h t ih =>
    rw [List.map_cons,List.map_cons]
    refine .cons ?_ ih
    obtain ⟨h1,h2,h3⟩:=h
    unfold putAt
    by_cases e:p.1 = k
    · rw [if_pos e,if_pos (h1.symm.trans e)];exact ⟨h1,h2,ry⟩
    · rw [if_neg e,if_neg (fun z=>e (h1.trans z))];exact ⟨h1,h2,h3⟩
theorem KT.put {H:Hp} {kvs:List (List Key×V)} {xs:List (List Key×Addr×Value)} (r:KT H kvs xs) (k:List Key) {b:Addr} {y:V} {u:Value} (hb:H b = some (.tup (k.map kV))) (ry:RelV y u) :
    KT H (putK kvs k y) (storedH xs k b u):=by
  have e:(kvs.any fun kv=>decide (kv.1 = k)) = (atKey xs k).isSome:=by
    rw [valV_any,(r.val k).isSome_eq,Option.isSome_map]
  unfold putK storedH
  rw [e]
  by_cases q:(atKey xs k).isSome = true
  · rw [if_pos q,if_pos q];exact r.repl k ry
  · rw [if_neg q,if_neg q];exact Paired.snoc r ⟨rfl,hb,ry⟩
theorem KT.keeps {H H':Hp} {kvs:List (List Key×V)} {xs:List (List Key×Addr×Value)} (r:KT H kvs xs) (ht:∀ b ys,H b = some (.tup ys)→H' b = some (.tup ys)):KT H' kvs xs :=
  Paired.mapP r fun _ _ z=>⟨z.1,ht _ _ z.2.1,z.2.2⟩
section
variable {P:Program} {w:World} {H:Hp} {h:Heap} {a:Addr}
theorem rd_of {u:HO} (ok:HOk P w H h) (e:Rd H a u):ObjOk P w H h a u:=e.ok ok
theorem dk_rd {kvs:List (Key×V)} (ok:HOk P w H h) (e:Rd H a (.dK kvs)):kvs.length≤sizeLine∧(a == sysModules) = false∧∃ vs,KV kvs vs∧h.DictOf (mixKind P w) a vs :=
  show ObjOk P w H h a (.dK kvs) from rd_of ok e
theorem dk_of {kvs:List (Key×V)} (ok:HOk P w H h) (e:H a = some (.dK kvs)):kvs.length≤sizeLine∧(a == sysModules) = false∧∃ vs,KV kvs vs∧h.DictOf (mixKind P w) a vs:=dk_rd ok (.inl e)
theorem key_of {ks:List Key} (ok:HOk P w H h) (e:H a = some (.tup (ks.map kV))):(tupleKind (mixKind P w)).is h ks a:=by
  obtain ⟨_,its,r,o,h1,h2,n,h3⟩:=(show ObjOk P w H h a (.tup (ks.map kV)) from ok a _ e)
  exact ⟨o,its.toArray,n,h1,h2,h3,by simpa using items_are r⟩
theorem dt_rd {kvs:List (List Key×V)} (ok:HOk P w H h) (e:Rd H a (.dT kvs)):kvs.length≤sizeLine∧(a == sysModules) = false ∧
    ∃ xs,KT H kvs xs∧h.DictOfH (tupleKind (mixKind P w)) a xs:=by
  obtain ⟨z,y,xs,r,o,es,ep,h1,h2,h3,h4,h5⟩:=(show ObjOk P w H h a (.dT kvs) from rd_of ok e)
  refine ⟨z,y,xs,r,o,es,ep,h1,h2,h3,h4,fun x hx=>?_,h5⟩
  have all:∀ {l:List (List Key×V)} {m:List (List Key×Addr×Value)},KT H l m→∀ x∈m,(tupleKind (mixKind P w)).is h x.1 x.2.1:=by
    intro l m q
    induction q with
    | nil=>intro x hx;exact nomatch hx
    | @cons p q ps qs hq t ih =>
      intro x hx
      rcases List.mem_cons.mp hx with e | hx
      · subst e
        exact key_of ok (by rw [← hq.1];exact hq.2.1)
      · exact ih x hx
  exact all r x hx
theorem dt_of {kvs:List (List Key×V)} (ok:HOk P w H h) (e:H a = some (.dT kvs)):kvs.length≤sizeLine∧(a == sysModules) = false ∧
    ∃ xs,KT H kvs xs∧h.DictOfH (tupleKind (mixKind P w)) a xs:=dt_rd ok (.inl e)
end
def DGet (H:Hp) (a:Addr) (y:V) (r:Option V):Prop :=
  (∃ kvs k,Rd H a (.dK kvs)∧y = kV k∧r = valV kvs k)∨∃ kvs k b,Rd H a (.dT kvs)∧y = .ref b∧H b = some (.tup (k.map kV))∧r = valV kvs k
def DPut (H:Hp) (a:Addr) (y v:V) (H':Hp):Prop :=
  (∃ kvs k,H a = some (.dK kvs)∧y = kV k∧kvs.length < sizeLine∧H' = upd H a (.dK (putK kvs k v))) ∨
  ∃ kvs k b,H a = some (.dT kvs)∧y = .ref b∧H b = some (.tup (k.map kV))∧kvs.length < sizeLine∧H' = upd H a (.dT (putK kvs k v))
theorem DGet.k {H:Hp} {a:Addr} {kvs:List (Key×V)} {k:Key} (e:H a = some (.dK kvs)):DGet H a (kV k) (valV kvs k):=.inl ⟨kvs,k,.inl e,rfl,rfl⟩
theorem DPut.k {H:Hp} {a:Addr} {kvs:List (Key×V)} {k:Key} {v:V} (e:H a = some (.dK kvs)) (hl:kvs.length < sizeLine):DPut H a (kV k) v (upd H a (.dK (putK kvs k v))):=.inl ⟨kvs,k,e,rfl,hl,rfl⟩
theorem DPut.t {H:Hp} {a b:Addr} {kvs:List (List Key×V)} {k:List Key} {v:V} (e:H a = some (.dT kvs)) (eb:H b = some (.tup (k.map kV))) (hl:kvs.length < sizeLine) :
    DPut H a (.ref b) v (upd H a (.dT (putK kvs k v))):=.inr ⟨kvs,k,b,e,rfl,eb,hl,rfl⟩
section
variable {X:Cx} {pins:List (Addr×Obj)} {σ:St} {H:Hp} {s:Shared} {a:Addr} {y v:V} {u r:Value} {o:Option V} {A:Around} {E:Value→Shared→Prop}
theorem Inv.big (I:Inv X pins σ H s):sysModules < s.heap.objs.size:=by
  have h:mainGlobals < s.heap.objs.size:=(I.mod.glob.keeps I.bk).lt
  exact Nat.lt_trans (by decide) h
theorem d_getItem {Q:Value→Shared→Prop} (hu:A.units + 1 < cLine) (I:Inv X pins σ H s) (g:DGet H a y (some v)) (ry:RelV y u) (h:∀ w' s',Inv X pins σ H s'→RelV v w'→Q w' s') :
    wpAny (model X.prog X.w) A (getItem (.ref a) u) Q E s:=by
  rcases g with ⟨kvs,k,e,ey,l⟩ | ⟨kvs,k,b,e,ey,eb,l⟩
  · subst ey
    obtain ⟨z,hd,vs,rel,dd⟩:=dk_rd I.hok e
    obtain ⟨w',hw,rw'⟩:=RelO.some_of (v:=v) (o:=valueAt vs k) (by rw [l];exact rel.val k)
    exact wpAny_getItem_of (kV_is ry) dd.mapOf hw (h w' _ (I.tok _) rw')
  · subst ey
    cases (show u = Value.ref b from ry)
    obtain ⟨z,hd,xs,rel,dd⟩:=dt_rd I.hok e
    obtain ⟨w',hw,rw'⟩:=RelO.some_of (v:=v) (o:=(atKey xs k).map (·.2)) (by rw [l];exact rel.val k)
    obtain ⟨p,hp,hp2⟩:=Option.map_eq_some_iff.mp hw
    refine wpAny_getItem_heap (tupleKind_room_in1 hu) (key_of I.hok eb) dd hp ?_
    rw [hp2]
    exact h w' _ (I.tok _) rw'
theorem d_in {Q:Value→Shared→Prop} (hu:A.units + 1 < cLine) (I:Inv X pins σ H s) (g:DGet H a y o) (ry:RelV y u) (h:∀ s',Inv X pins σ H s'→Q (.bool o.isSome) s') :
    wpAny (model X.prog X.w) A (compareOp .In u (.ref a)) Q E s:=by
  rcases g with ⟨kvs,k,e,ey,l⟩ | ⟨kvs,k,b,e,ey,eb,l⟩
  · subst ey
    obtain ⟨z,hd,vs,rel,dd⟩:=dk_rd I.hok e
    refine wpAny_in_of (kV_is ry) hd dd.mapOf ?_
    rw [← (rel.val k).isSome_eq,← l]
    exact h _ (I.tok _)
  · subst ey
    cases (show u = Value.ref b from ry)
    obtain ⟨z,hd,xs,rel,dd⟩:=dt_rd I.hok e
    refine wpAny_in_heap (tupleKind_room_in1 hu) (key_of I.hok eb) hd dd ?_
    have q:=(rel.val k).isSome_eq
    rw [Option.isSome_map] at q
    rw [← q,← l]
    exact h _ (I.tok _)
theorem d_notIn {Q:Value→Shared→Prop} (hu:A.units + 1 < cLine) (I:Inv X pins σ H s) (g:DGet H a y o) (ry:RelV y u) (h:∀ s',Inv X pins σ H s'→Q (.bool (!o.isSome)) s') :
    wpAny (model X.prog X.w) A (compareOp .NotIn u (.ref a)) Q E s:=by
  rcases g with ⟨kvs,k,e,ey,l⟩ | ⟨kvs,k,b,e,ey,eb,l⟩
  · subst ey
    obtain ⟨z,hd,vs,rel,dd⟩:=dk_rd I.hok e
    refine wpAny_notIn_of (kV_is ry) hd dd.mapOf ?_
    rw [← (rel.val k).isSome_eq,← l]
    exact h _ (I.tok _)
  · subst ey
    cases (show u = Value.ref b from ry)
    obtain ⟨z,hd,xs,rel,dd⟩:=dt_rd I.hok e
    refine wpAny_notIn_heap (tupleKind_room_in1 hu) (key_of I.hok eb) hd dd ?_
    have q:=(rel.val k).isSome_eq
    rw [Option.isSome_map] at q
    rw [← q,← l]
    exact h _ (I.tok _)
theorem d_write {h':Heap} {t':Nat} {ob:HO} (I:Inv X pins σ H s) (mu:Mut (H a)) (hs:Heap.SameBut a s.heap h') (he:∃ q,h'.get? a = some q) (new:ObjOk X.prog X.w (upd H a ob) h' a ob) :
    Inv X pins σ (upd H a ob) { s with heap:=h',toks:=t' } :=
  I.write (x:=a) (e:=a) mu (.inl rfl) (fun b q hb z=>(hs.2 b hb).trans z) he new
theorem dk_new {P:Program} {w:World} {H':Hp} {h':Heap} {kvs:List (Key×V)} {vs:List (Key×Value)} (z:kvs.length≤sizeLine) (hd:(a == sysModules) = false) (rel:KV kvs vs) (dd:h'.DictOf (mixKind P w) a vs) :
    ObjOk P w H' h' a (.dK kvs):=⟨z,hd,vs,rel,dd⟩
theorem d_setItem {H':Hp} {Q:Unit→Shared→Prop} (hu:A.units + 1 < cLine) (I:Inv X pins σ H s) (g:DPut H a y v H') (ry:RelV y u) (rv:RelV v r) (h:∀ s',Inv X pins σ H' s'→Q () s') :
    wpAny (model X.prog X.w) A (setItem (.ref a) u r) Q E s:=by
  rcases g with ⟨kvs,k,e,ey,l,eH⟩ | ⟨kvs,k,b,e,ey,eb,l,eH⟩
  · subst ey eH
    obtain ⟨z,hd,vs,rel,dd⟩:=dk_of I.hok e
    have hz:vs.length≤sizeLine:=by rw [← rel.length];exact z
    have hl:(putK kvs k v).length≤sizeLine:=by have:=length_putK kvs k v;omega
    refine wpAny_setItem_pairs (hsz:=hz) (kV_is ry) dd fun h' dd' hs=>h _ ?_
    have he:∃ q,h'.get? a = some q:=let ⟨q,_,_,hq,_⟩:=dd';⟨q,hq⟩
    exact d_write I (by rw [e];exact True.intro) hs he (dk_new hl hd (rel.put k rv) dd')
  · subst ey eH
    cases (show u = Value.ref b from ry)
    obtain ⟨z,hd,xs,rel,dd⟩:=dt_of I.hok e
    have hz:xs.length≤sizeLine:=by rw [← Paired.length rel];exact z
    have hl:(putK kvs k v).length≤sizeLine:=by have:=length_putK kvs k v;omega
    refine wpAny_setItem_heap (hsz:=hz) (tupleKind_room_in1 hu) (key_of I.hok eb) dd fun h' dd' hs=>h _ ?_
    obtain ⟨q,es,ep,hq,h2,h3,h4,_,h5⟩:=dd'
    refine d_write I (by rw [e];exact True.intro) hs ⟨q,hq⟩ ⟨hl,hd,_,(rel.put k eb rv).keeps fun c ys ec=>?_,q,es,ep,hq,h2,h3,h4,h5⟩
    rw [upd_ne (ne_of ec e (fun z=>nomatch z))]
    exact ec
end
section
variable {X:Cx} {pins:List (Addr×Obj)} {σ:St} {H:Hp} {s:Shared} {a:Addr} {kvs:List (Key×V)} {k:Key} {u:Value} {A:Around} {E:Value→Shared→Prop}
end
def NoSl (i:Expr):Prop:=∀ ov iv,subscripted i false ov iv = operate [ov,iv] (getItem ov iv)
theorem subD_of {prog:Program} {w:World} {A:Around} {E:Value→Shared→Prop} {s:Shared} {env:Env} {value slice:Expr} {pos:Pos} {T id:String} {Q:Value→Shared→Prop}
    (hl:typeLookup (.type T) "__getitem__" = pure (some (.builtin id))) (hs:NoSl slice)
    (h:wpAny (model prog w) A (eval value env) (fun o s₁=>wpAny (model prog w) A (eval slice env) (fun i s₂=>s₂.TypeIs o T∧wpAny (model prog w) A (getItem o i) Q E s₂) E s₁) E s) :
    wpAny (model prog w) A (eval (.Subscript value slice pos) env) Q E s:=by
  refine Subscript_ (wpAny_mono h (fun o s₁ h₁=>wpAny_mono h₁ (fun i s₂ h₂=>?_) fun _ _ x=>x) fun _ _ x=>x)
  obtain ⟨hT,h₂⟩:=h₂
  unfold subscriptTail
  refine wpAny_bind ?_
  rw [getitemInPython_of_ne hT.not_modules]
  refine wpAny_bind (wpAny_specialOf hT hl ?_)
  have fin:wpAny (model prog w) A (subscripted slice false o i) (fun r s₃=>wpAny (model prog w) A (letTemporaryGo value o r >>= fun _=>pure r) Q E s₃) E s₂:=by
    rw [hs o i]
    exact wpAny_operating (wpAny_mono h₂ (fun r s₃ h₃=>wpAny_bind (wpAny_letTemporaryGo (wpAny_pure h₃))) fun _ _ x=>x)
  first
    | exact wpAny_pure (wpAny_bind fin)
    | exact wpAny_bind (wpAny_pure (wpAny_bind fin))
    | exact wpAny_bind fin
theorem dict_typeIs {X:Cx} {pins:List (Addr×Obj)} {σ:St} {H:Hp} {s:Shared} {a:Addr} {y:V} {o:Option V} (I:Inv X pins σ H s) (g:DGet H a y o):s.TypeIs (.ref a) "dict":=by
  rcases g with ⟨kvs,k,e,_,_⟩ | ⟨kvs,k,b,e,_,_,_⟩
  · obtain ⟨_,_,vs,_,dd⟩:=dk_rd I.hok e
    exact dd.typeIs
  · obtain ⟨_,_,xs,_,dd⟩:=dt_rd I.hok e
    exact dd.typeIs
inductive XDg (x y:V) (H:Hp) (Q:VK):Prop
  | mk (a:Addr) (v:V):x = .ref a→DGet H a y (some v)→Q v H→XDg x y H Q
def tDGet (td ty:TE):TE:=fun σ H Q=>td σ H fun x H1=>ty σ H1 fun y H2=>XDg x y H2 Q
def tDIn (ty td:TE):TE:=fun σ H Q=>ty σ H fun y H1=>td σ H1 fun x H2=>∃ a o,x = .ref a∧DGet H2 a y o∧Q (.bl o.isSome) H2
def tDNotIn (ty td:TE):TE:=fun σ H Q=>ty σ H fun y H1=>td σ H1 fun x H2=>∃ a o,x = .ref a∧DGet H2 a y o∧Q (.bl (!o.isSome)) H2
def sDPut (td ty tv:TE):TS:=fun D σ H=>tv σ H fun v H1=>td σ H1 fun x H2=>ty σ H2 fun y H3=>∃ a H4,x = .ref a∧DPut H3 a y v H4∧D.nx σ H4
def sDAug (td ty tv:TE) (rd:V→V→Hp→VK→Prop):TS:=fun D σ H=>td σ H fun x H1=>ty σ H1 fun y H2=>∃ a v,x = .ref a∧DGet H2 a y (some v) ∧
  tv σ H2 fun y2 H3=>rd v y2 H3 fun z H4=>∃ H5,DPut H4 a y z H5∧D.nx σ H5
def sDDel (td ty:TE):TS:=fun D σ H=>td σ H fun x H1=>ty σ H1 fun y H2=>∃ a kvs k,x = .ref a∧H2 a = some (.dK kvs)∧y = kV k∧(valV kvs k).isSome = true∧D.nx σ (upd H2 a (.dK (dropK kvs k)))
section
variable {X:Cx} {o i e value:Expr} {pos pos' tpos:Pos} {td ty tv:TE}
theorem pe_dget (hu:X.A.units + 1 < cLine) (ho:PE X o td) (hi:PE X i ty) (hs:NoSl i):PE X (.Subscript o i pos) (tDGet td ty):=by
  intro pins s σ H Q I h
  refine subD_of PySem.F.slot_dict_getitem.lookup hs (thn (ho pins s σ H _ I h) fun u s1 ⟨x,H1,I1,rx,q1⟩=>thn (hi pins s1 σ H1 _ I1 q1) fun iv s2 ⟨y,H2,I2,ry,a,v,ex,g,q2⟩=>?_)
  subst ex
  obtain rfl:u = Value.ref a:=rx
  exact ⟨dict_typeIs I2 g,d_getItem hu I2 g ry fun w' s3 I3 rw'=>⟨v,H2,I3,rw',q2⟩⟩
theorem pc_din (hu:X.A.units + 1 < cLine) (hi:PE X i ty) (ho:PE X o td):PC X .In i o (tDIn ty td):=by
  intro pins s σ H Q I h
  refine thn (hi pins s σ H _ I h) fun iv s1 ⟨y,H1,I1,ry,q1⟩=>thn (ho pins s1 σ H1 _ I1 q1) fun u s2 ⟨x,H2,I2,rx,a,ov,ex,g,q2⟩=>?_
  subst ex
  obtain rfl:u = Value.ref a:=rx
  exact d_in hu I2 g ry fun s3 I3=>⟨.bl ov.isSome,H2,I3,rfl,q2⟩
theorem pc_dnotin (hu:X.A.units + 1 < cLine) (hi:PE X i ty) (ho:PE X o td):PC X .NotIn i o (tDNotIn ty td):=by
  intro pins s σ H Q I h
  refine thn (hi pins s σ H _ I h) fun iv s1 ⟨y,H1,I1,ry,q1⟩=>thn (ho pins s1 σ H1 _ I1 q1) fun u s2 ⟨x,H2,I2,rx,a,ov,ex,g,q2⟩=>?_
  subst ex
  obtain rfl:u = Value.ref a:=rx
  exact d_notIn hu I2 g ry fun s3 I3=>⟨.bl (!ov.isSome),H2,I3,rfl,q2⟩
theorem ps_dput (hu:X.A.units + 1 < cLine) (ho:PE X o td) (hi:PE X i ty) (hv:PE X value tv) (hs:swapsWith value (some (.Subscript o i pos')) pos.line X.env = pure false) :
    PS X (.Assign [.Subscript o i pos'] value pos) (sDPut td ty tv):=by
  intro pins s σ H D I h
  refine wpAny_Assign_Subscript (thn (hv pins s σ H _ I h) fun r s1 ⟨v,H1,I1,rv,q1⟩=>thn (ho pins s1 σ H1 _ I1 q1) fun u s2 ⟨x,H2,I2,rx,q2⟩=>thn (hi pins s2 σ H2 _ I2 q2) fun iv s3 ⟨y,H3,I3,ry,a,H4,ex,g,q3⟩=>?_) hs
  subst ex
  obtain rfl:u = Value.ref a:=rx
  exact d_setItem hu I3 g ry rv fun s4 I4=>⟨σ,H4,I4,q3⟩
theorem ps_daug {op:Operator} {rd:V→V→Hp→VK→Prop} (hu:X.A.units + 1 < cLine) (ho:PE X o td) (hi:PE X i ty) (hv:PE X value tv) (hop:InOp X op rd)
    (ha:∀ ov iv new,augStore i ov iv new = (do holding [new,ov,iv] (setItem ov iv new);release [new,ov,iv] [];pure .next)):PS X (.AugAssign (.Subscript o i tpos) op value pos) (sDAug td ty tv rd):=by
  intro pins s σ H D I h
  refine wpAny_AugAssign_SubscriptAny (thn (ho pins s σ H _ I h) fun u s1 ⟨x,H1,I1,rx,q1⟩=>thn (hi pins s1 σ H1 _ I1 q1) fun iv s2 ⟨y,H2,I2,ry,a,v,ex,g,q2⟩=>?_) ha
  subst ex
  obtain rfl:u = Value.ref a:=rx
  refine d_getItem hu I2 g ry fun w' s3 I3 rw'=>thn (hv pins s3 σ H2 _ I3 q2) fun w2 s4 ⟨y2,H3,I4,ry2,q3⟩=>thn (hop pins s4 σ H3 v y2 w' w2 _ I4 rw' ry2 q3) fun w3 s5 ⟨z,H4,I5,rz,H5,g5,q4⟩=>?_
  exact d_setItem hu I5 g5 ry rz fun s6 I6=>⟨σ,H5,I6,q4⟩
end
theorem dk_empty {P:Program} {w:World} {H:Hp} (h:Heap) (hb:sysModules < h.objs.size):ObjOk P w H (h.push { cls:=.type "dict",data:=.dict #[] }) h.objs.size (.dK []) :=
  ⟨Nat.zero_le _,beq_eq_false_iff_ne.mpr (Ne.symm (Nat.ne_of_lt hb)),[],.nil,Heap.DictOf.new h⟩
theorem dt_empty {P:Program} {w:World} {H:Hp} (h:Heap) (hb:sysModules < h.objs.size):ObjOk P w H (h.push { cls:=.type "dict",data:=.dict #[] }) h.objs.size (.dT []) :=
  ⟨Nat.zero_le _,beq_eq_false_iff_ne.mpr (Ne.symm (Nat.ne_of_lt hb)),[],.nil,_,#[],0,Heap.get?_push_size _ rfl,⟨rfl,rfl,rfl⟩,rfl,rfl,List.nodup_nil⟩
def tDNewK:TE:=fun _ H Q=>∀ p,H p = none→Q (.ref p) (upd H p (.dK []))
def tDNewT:TE:=fun _ H Q=>∀ p,H p = none→Q (.ref p) (upd H p (.dT []))
section
variable {X:Cx} {pos:Pos}
theorem pe_dnewK:PE X (.Dict [] [] pos) tDNewK:=fun pins s σ H Q I h =>
  wpAny_Dict_empty ⟨.ref s.heap.objs.size,_,I.laid (a:=s.heap.objs.size) (o:=.dK []) (t':=s.toks) (fun _ _ q=>Heap.get?_push_of_some _ q) (Nat.le_refl _) (dk_empty s.heap I.big),rfl,h _ (I.hok.fresh (Nat.le_refl _))⟩
theorem pe_dnewT:PE X (.Dict [] [] pos) tDNewT:=fun pins s σ H Q I h =>
  wpAny_Dict_empty ⟨.ref s.heap.objs.size,_,I.laid (a:=s.heap.objs.size) (o:=.dT []) (t':=s.toks) (fun _ _ q=>Heap.get?_push_of_some _ q) (Nat.le_refl _) (dt_empty s.heap I.big),rfl,h _ (I.hok.fresh (Nat.le_refl _))⟩
end
def tPairs:List (TE×TE)→St→Hp→(List (V×V)→Hp→Prop)→Prop
  | [],_,H,Q=>Q [] H
  | (tk,tv) :: r,σ,H,Q=>tk σ H fun x H1=>tv σ H1 fun y H2=>tPairs r σ H2 fun ps H3=>Q ((x,y) :: ps) H3
abbrev VV:List (V×V)→List (Value×Value)→Prop:=Paired fun p q=>RelV p.1 q.1∧RelV p.2 q.2
def PPs (X:Cx) (pos:Pos) (keys:List (Option Expr)) (values:List Expr) (trs:List (TE×TE)):Prop :=
  ∀ (pins:List (Addr×Obj)) (s:Shared) (σ:St) (H:Hp) (Q:List (V×V)→Hp→Prop),Inv X pins σ H s→tPairs trs σ H Q →
    wpAny (model X.prog X.w) X.A (evalPairs (pairTrees keys values X.env pos)) (fun vs s'=>∃ ps H',Inv X pins σ H' s'∧VV ps vs∧Q ps H') X.xe s
def mergeK (kvs more:List (Key×V)):List (Key×V):=more.foldl (fun acc kv=>putK acc kv.1 kv.2) kvs
def tDisp (trs:List (TE×TE)):TE:=fun σ H Q=>∀ p,H p = none→tPairs trs σ (upd H p (.dK [])) fun ps H2=>H2 p = some (.dK [])∧∃ kvs:List (Key×V),ps = kvs.map (fun kv=>(kV kv.1,kv.2))∧kvs.length≤15∧Q (.ref p) (upd H2 p (.dK (mergeK [] kvs)))
structure M1 (X:Cx) (o:Expr) (m:Str) (apos:Pos) (e:Expr) (cpos:Pos):Prop where
  base:attributeBase o m X.env (eval o X.env) = eval o X.env
  few:((backTo cpos (starEach [e] X.env)).all (fun x=>!x.1) && (backToKw cpos (keywordEach [] X.env)).all (fun x=>x.1.isSome)
    && decide (([e]:List Expr).length + ([]:List Keyword).length + (if ([]:List Keyword).isEmpty then 0 else 1) < 30)) = true
  line:(apos.endLine == cpos.line) = true
  trees:backTo cpos (starEach [e] X.env) = [(false,eval e X.env)]
structure M2 (X:Cx) (o:Expr) (m:Str) (apos:Pos) (e f:Expr) (cpos:Pos):Prop where
  base:attributeBase o m X.env (eval o X.env) = eval o X.env
  few:((backTo cpos (starEach [e,f] X.env)).all (fun x=>!x.1) && (backToKw cpos (keywordEach [] X.env)).all (fun x=>x.1.isSome)
    && decide (([e,f]:List Expr).length + ([]:List Keyword).length + (if ([]:List Keyword).isEmpty then 0 else 1) < 30)) = true
  line:(apos.endLine == cpos.line) = true
  trees:backTo cpos (starEach [e,f] X.env) = [(false,eval e X.env),(false,eval f X.env)]
def IsD (H:Hp) (a:Addr):Prop:=(∃ kvs,Rd H a (.dK kvs))∨∃ kvs,Rd H a (.dT kvs)
theorem isD_at {X:Cx} {pins:List (Addr×Obj)} {σ:St} {H:Hp} {s:Shared} {a:Addr} (I:Inv X pins σ H s) (d:IsD H a) :
    s.TypeIs (.ref a) "dict"∧(∀ b,Value.ref a = .ref b→∃ ob,s.heap.get? b = some ob∧ob.dict = none)∧(a == sysModules) = false:=by
  rcases d with ⟨kvs,e⟩ | ⟨kvs,e⟩
  · obtain ⟨_,hd,vs,_,dd⟩:=dk_rd I.hok e
    refine ⟨dd.typeIs,fun b q=>?_,hd⟩
    cases q
    obtain ⟨ob,_,_,h1,h2,_⟩:=dd
    exact ⟨ob,h1,h2.2.1⟩
  · obtain ⟨_,hd,xs,_,dd⟩:=dt_rd I.hok e
    refine ⟨dd.typeIs,fun b q=>?_,hd⟩
    cases q
    obtain ⟨ob,_,_,h1,h2,_⟩:=dd
    exact ⟨ob,h1,h2.2.1⟩
section
variable {X:Cx} {pins:List (Addr×Obj)} {σ:St} {H:Hp} {s:Shared} {a:Addr} {y d:V} {u r:Value} {o:Option V} {A:Around} {E:Value→Shared→Prop}
theorem d_get2 {Q:Value→Shared→Prop} (hu:A.units + 1 < cLine) (I:Inv X pins σ H s) (g:DGet H a y o) (ry:RelV y u) (rd:RelV d r) (h:∀ w' s',Inv X pins σ H s'→RelV (o.getD d) w'→Q w' s') :
    wpAny (model X.prog X.w) A (call (.builtin "dict.get") [.ref a,u,r]) Q E s:=by
  rcases g with ⟨kvs,k,e,ey,l⟩ | ⟨kvs,k,b,e,ey,eb,l⟩
  · subst ey
    obtain ⟨z,hd,vs,rel,dd⟩:=dk_rd I.hok e
    refine call_meetsIn PySem.F.slot_dict_get dd.typeIs PySem.F.entry_dict_get (PySem.F.args_dict_get_3 _ _ _) (meets_dict_get_default (mixKind X.prog X.w) a (kV_is ry) hd r) ⟨_,dd.mapOf,h _ _ (I.tok _) ?_⟩
    rw [l]
    exact (rel.val k).getD rd
  · subst ey
    cases (show u = Value.ref b from ry)
    obtain ⟨z,hd,xs,rel,dd⟩:=dt_rd I.hok e
    refine call_meetsIn PySem.F.slot_dict_get dd.typeIs PySem.F.entry_dict_get (PySem.F.args_dict_get_3 _ _ _) (meetsH_dict_get_default (tupleKind (mixKind X.prog X.w)) a b hd r) ⟨tupleKind_room_in1 hu,k,xs,key_of I.hok eb,dd,h _ _ (I.tok _) ?_⟩
    rw [l]
    exact (rel.val k).getD rd
end
def tDGet1 (td ty:TE):TE:=fun σ H Q=>td σ H fun x H1=>∃ a,x = .ref a∧IsD H1 a∧ty σ H1 fun y H2=>∃ o,DGet H2 a y o∧Q (o.getD .non) H2
def tDGet2 (td ty tx:TE):TE:=fun σ H Q=>td σ H fun x H1=>∃ a,x = .ref a∧IsD H1 a∧ty σ H1 fun y H2=>tx σ H2 fun z H3=>∃ o,DGet H3 a y o∧Q (o.getD z) H3
def tDPop1 (td ty:TE):TE:=fun σ H Q=>td σ H fun x H1=>∃ a,x = .ref a∧IsD H1 a∧ty σ H1 fun y H2=>∃ kvs k v,H2 a = some (.dK kvs)∧y = kV k∧valV kvs k = some v∧Q v (upd H2 a (.dK (dropK kvs k)))
def tDPop2 (td ty tx:TE):TE:=fun σ H Q=>td σ H fun x H1=>∃ a,x = .ref a∧IsD H1 a∧ty σ H1 fun y H2=>tx σ H2 fun z H3=>∃ kvs k,H3 a = some (.dK kvs)∧y = kV k ∧
  (∀ v,valV kvs k = some v→Q v (upd H3 a (.dK (dropK kvs k))))∧(valV kvs k = none→Q z H3)
section
variable {X:Cx} {o e f:Expr} {apos cpos:Pos} {td ty tx:TE}
theorem pe_dget2 (hu:X.A.units + 1 < cLine) (ho:PE X o td) (he:PE X e ty) (hf:PE X f tx) (m:M2 X o "get" apos e f cpos):PE X (.Call (.Attribute o "get" apos) [e,f] [] cpos) (tDGet2 td ty tx):=by
  intro pins s σ H Q I h
  refine wpAny_Call_method m.base m.few m.line PySem.F.plainAttrs_dict PySem.F.slot_dict_get PySem.F.type_dict_get (thn (ho pins s σ H _ I h) fun u s1 ⟨x,H1,I1,rx,a,ex,d,q1⟩=>?_)
  subst ex
  obtain rfl:u = Value.ref a:=rx
  obtain ⟨t1,t2,_⟩:=isD_at I1 d
  refine ⟨t1,t2,?_⟩
  rw [m.trees]
  refine Calls.callWith_builtin rfl (Calls.evalArgs_plain (Calls.spliced_cons (thn (he pins s1 σ H1 _ I1 q1) fun iv s2 ⟨y,H2,I2,ry,q2⟩ =>
    Calls.spliced_cons (thn (hf pins s2 σ H2 _ I2 q2) fun fv s3 ⟨z,H3,I3,rz,ov,g,q3⟩=>Calls.spliced_nil ?_))))
  exact d_get2 hu I3 g ry rz fun w' s4 I4 rw'=>⟨_,H3,I4,rw',q3⟩
end
section
variable {X:Cx} {pins:List (Addr×Obj)} {σ:St} {H:Hp} {s:Shared} {a:Addr} {kvs:List (Key×V)} {A:Around} {E:Value→Shared→Prop}
theorem d_copyOf {Q:Value→Shared→Prop} (I:Inv X pins σ H s) (e:Rd H a (.dK kvs)) (h:∀ p s',H p = none→Inv X pins σ (upd H p (.dK kvs)) s'→Q (.ref p) s'):wpAny (model X.prog X.w) A (call (.type "dict") [.ref a]) Q E s:=by
  obtain ⟨z,hd,vs,rel,dd⟩:=dk_rd I.hok e
  refine kt_call_dict hd dd (by rw [← rel.length];exact z) fun h' dd' hs=>?_
  refine h _ _ (I.hok.fresh (Nat.le_refl _)) (I.laid (a:=s.heap.objs.size) (o:=.dK kvs) (t':=s.toks) (fun b q hq=>?_) (Nat.le_refl _) (dk_new z (beq_eq_false_iff_ne.mpr (Ne.symm (Nat.ne_of_lt I.big))) rel dd'))
  exact (hs.2 b (Nat.ne_of_lt (Heap.lt_size hq))).trans (Heap.get?_push_of_some _ hq)
end
section
variable {X:Cx} {pins:List (Addr×Obj)} {σ:St} {H:Hp} {s:Shared} {a:Addr} {y:V} {u:Value} {A:Around} {E:Value→Shared→Prop}
end
end L2
namespace Att
open PySem PySem.W PySem.Calls PyProof.Rows
theorem ints_of_wellAll {P:Params} {h:Heap}:∀ (ns:List Int) (vs:List Value),WellAll P h vs (ns.map WData.int)→IntsAre vs ns:=by
  intro ns
  induction ns with
  | nil =>
    intro vs w
    rw [List.map_nil] at w
    cases w
    exact .nil
  | cons n ns ih =>
    intro vs w
    rw [List.map_cons] at w
    cases w with
    | cons a b =>
      cases a
      exact .cons _ _ (ih _ b)
theorem script_of {l:OpenLaw} {n:Nat} (hn:l.most = some n) {P:Params} {h:Heap} {args:List WData} {vals:List Value}
    (hpre:l.row.toRowW.claim.pre args = true) (hwl:WellAll P h vals args) :
    ∃ a vs ns,vals = [Value.ref a]∧args = [WData.list (ns.map WData.int)]∧h.get? a = some { cls:=.type "list",data:=.seq vs.toArray }∧IntsAre vs ns∧ns.length≤n:=by
  have hsh:WShape.hasAll [] args [.list .int] = true:=(pre_splitW hpre).1
  have hc:l.pre.holds [] { args:=args } = true:=(pre_splitW hpre).2
  obtain ⟨d,r,rfl,h1,h2⟩:=hasAllW_cons hsh
  obtain rfl:=hasAllW_nil h2
  obtain ⟨xs,rfl,h3⟩:=hasW_list h1
  obtain ⟨ns,rfl⟩:=items_int h3
  have hlen:ns.length≤n:=by
    unfold OpenLaw.pre at hc
    have h4:(WTm.not (.lt (.lit (.int (n:Int))) (.len (.arg 0)))).holds [] { args:=[.list (ns.map .int)] } = true:=by
      have h4:=(holds_andW hc).1
      rw [hn] at h4
      exact h4
    have h5:=condW_of h4 (w_not (w_lt w_lit (w_len_list (w_arg rfl))))
    rw [List.length_map] at h5
    refine Nat.le_of_not_lt fun q=>?_
    have q':(n:Int) < ((ns.length:Nat):Int):=by omega
    first
      | (rw [decide_eq_true q'] at h5;exact absurd h5 (by decide))
      | (simp at h5;omega)
  cases hwl with
  | cons w1 w2 =>
    cases w2
    cases w1 with
    | list ho hall=>exact ⟨_,_,ns,rfl,rfl,ho,ints_of_wellAll ns _ hall,hlen⟩
theorem post_true (l:OpenLaw) (args:List WData):l.row.toRowW.claim.post args (.bool true) args = true :=
  postW_of (r:=l.row.toRowW) (X:=(true == true))
    (show WShape.has [] (.bool true) .bool = true by first | rfl | decide | simp [WShape.has,WShape.arms,WShape.armsAll])
    (show (WTm.eq .res (.lit (.bool true))).value [] { args:=args,res:=some (.bool true),after:=args } = some (.bool (true == true)) from w_eq_bool (w_res rfl) w_lit) rfl
theorem attach_call {l:OpenLaw} {n:Nat} {q:Program} {loose:List Str} {XP:(Str→Option Value)→Heap→Prop} {YP:World→Heap→Prop} {d:DefRec}
    (hn:l.most = some n) (hdf:d.params.defaults = [])
    (call:∀ (w:World) (s₀ s₁:Shared) (mg mb:Str→Option Value) (fa:Addr) (o:Obj) (pm cd doc:Value) (a:Addr) (vs:List Value) (ns:List Int),
      Ground q loose [] XP w s₀ mg mb s₁.heap→YP w s₁.heap →
      s₁.heap.get? fa = some o→o.data = .func (docDef d.name d.params d.body d.scope pm cd doc)→s₁.heap.CodeRec cd d.name→mg d.name = some (.ref fa) →
      s₁.heap.get? a = some { cls:=.type "list",data:=.seq vs.toArray }→IntsAre vs ns→ns.length≤n→s₁.gens = #[] →
      codeAny (model l.prog w) callerA (.call (.ref fa) ⟨[.ref a],[]⟩) (fun r s'=>r = .ok (.ret (.bool true))∧OldK s₁.heap s'.heap∧s'.os = s₁.os∧AllBare s'.gens) s₁) :
    WalkO q loose XP YP l.row.toRowW d [] (fun f vs=>PySem.call f vs):=by
  intro w s₀ s₁ mg mb G Y fa o pm cd doc dV kV ho hd hcd hD hmg hg args vals as hpre hlay hrd hwl hlo
  obtain rfl:dV = .none:=Dflts.none hD hdf
  obtain rfl:kV = .none:=Dflts.noKw hD
  obtain ⟨a,vs,ns,rfl,rfl,hobj,hints,hlen⟩:=script_of hn hpre hwl
  refine enter_call (codeAny_mono (call w s₀ s₁ mg mb fa o pm cd doc a vs ns G Y ho (fd_plain hd) hcd hmg hobj hints hlen hg) fun r s' hq=>?_)
  obtain ⟨rfl,h2,h3,h4⟩:=hq
  exact ⟨.inl ⟨.bool true,.bool true,[],rfl,fun _=>rfl,.bool true,post_true l _,fun _=>⟨List.Pairwise.nil,fun _ hm=>(nomatch hm)⟩⟩,h2,h3,h4⟩
section
variable {prog:Program} {w:World} {A:Around} {E:Value→Shared→Prop} {s:Shared} {K:Frag}
def noObjs (h:Heap):Heap:={ h with objs:=#[] }
def ledger (h:Heap) (L d:Addr):List (Addr×Obj):=(List.range h.objs.size).filterMap fun a=>if a = L∨a = d then none else (h.get? a).map fun o=>(a,o)
end
end Att
namespace L2
open PySem PySem.Spec PyProof.Rows
theorem vals_ints:∀ {vs:List Value} {ns:List Int},IntsAre vs ns→Vals (ns.map V.int) vs
  | _,_,.nil=>.nil
  | _,_,.cons n t h=>.cons ⟨t,rfl⟩ (vals_ints h)
def Only (H:Hp):Prop:=∀ b,H b = none∨∃ o xs,H b = some (.frz o (.lst xs))
theorem law_call {P:Program} {w:World} {K:PySem.W.Frag} {mg mb:Str→Option Value} {CX:CXT} {k:Nat} {fa a:Addr} {fd:FuncData} {x:Str} {sp:Sp} {s₁:Shared} {vs:List Value} {ns:List Int}
    (KX:K.In s₁.heap) (hns:s₁.heap.Ns mainGlobals mg) (hb:s₁.heap.Ns builtinsNs mb) (hbb:∀ x:Str,x≠"__name__"→mb x = bootBuiltins x) (hlim:s₁.heap.NoLimit) (hg:s₁.gens = #[])
    (ha:s₁.heap.get? a = some { cls:=.type "list",data:=.seq vs.toArray }) (hi:IntsAre vs ns) (hl:ns.length≤sizeLine) (hr:Room k callerA)
    (F:∀ base:Heap,K.In base→base.Ns mainGlobals mg→FnOk P w K mg base CX k fa fd [x] sp) (hbind:∀ (s:Shared) (u:Value),BindsTo s fd ⟨[u],[]⟩ [(x,u)])
    (hsp:∀ H:Hp,Only H→SqL K H a (ns.map V.int)→sp [.ref a] H (fun v _=>v = .bl true) fun _ _ _=>False)
    (hCX:∀ H e s',CX [] H s₁ (fun _ _ _=>False) e s'→False) :
    codeAny (model P w) callerA (.call (.ref fa) ⟨[.ref a],[]⟩) (fun r s'=>r = .ok (.ret (.bool true))∧OldK s₁.heap s'.heap∧s'.os = s₁.os∧AllBare s'.gens) s₁:=by
  have rv:=vals_ints hi
  have lenV:=hi.length
  have core:∀ H:Hp,Only H→SqL K H a (ns.map V.int)→HOk P w H s₁.heap→(∀ b,H b≠none→b = a)→(H a≠none→K.lookup a = none) →
      codeAny (model P w) callerA (.call (.ref fa) ⟨[.ref a],[]⟩) (fun r s'=>r = .ok (.ret (.bool true))∧OldK s₁.heap s'.heap∧s'.os = s₁.os∧AllBare s'.gens) s₁:=by
    intro H hO hS hok hA hK
    have base_of:∀ {b:Addr} {o:Obj},s₁.heap.get? b = some o→H b = none→(hidT s₁.heap H).get? b = some o:=fun e n=>hidT_get e n
    have noA:∀ {b:Addr} {o:Obj} {es:Array DictEntry} {ep:Nat},s₁.heap.get? b = some o→o.data = .dict es ep→H b = none:=fun {b o es ep} e d=>by
      cases q:H b with
      | none=>rfl
      | some u =>
        have e':b = a:=hA b (by rw [q];simp)
        subst e'
        rw [ha] at e;cases e
        have d':Data.seq vs.toArray _ = Data.dict es ep:=d
        cases d'
    have nsK:∀ {b:Addr} {m:Str→Option Value},s₁.heap.Ns b m→(hidT s₁.heap H).Ns b m:=fun {b m} ⟨o,es,ep,e,d,r⟩=>⟨o,es,ep,base_of e (noA e d),d,r⟩
    have hKb:K.In (hidT s₁.heap H):=fun b o e=>base_of (KX b o e) (by
      cases q:H b with
      | none=>rfl
      | some u =>
        have e':b = a:=hA b (by rw [q];simp)
        subst e'
        rw [hK (by rw [q];simp)] at e;cases e)
    have hM:Mod K mg (hidT s₁.heap H):=⟨hKb,nsK hns,⟨mb,nsK hb,hbb⟩,let ⟨mc,h1,h2⟩:=hlim;⟨mc,nsK h1,h2⟩⟩
    have e0:Env0 P w K mg (hidT s₁.heap H) callerA [] s₁ H:=⟨rfl,hM,fun b o e=>of_hidT e,Nat.le_of_eq (hidT_size _ _),trivial,fun b hb=>absurd (show b∈([]:List Addr) from hb) (by simp),hok,.of_eq hg⟩
    refine codeAny_mono ((F _ hKb (nsK hns)).run callerA [] s₁ H ⟨[.ref a],[]⟩ [.ref a] [.ref a] _ _ hr e0 (hbind s₁ (.ref a)) (.cons rfl .nil) (hsp H hO hS)) fun r s' h=>?_
    cases r with
    | error e=>exact (hCX H e s' h).elim
    | ok fl =>
      cases fl with
      | next=>exact False.elim h
      | brk=>exact False.elim h
      | cont=>exact False.elim h
      | ret u =>
        obtain ⟨v,H',os,bare,un,hok',r',q⟩:=h
        have q':v = .bl true:=q
        subst q'
        obtain rfl:u = Value.bool true:=r'
        refine ⟨rfl,OldK.of_keep fun b o e=>?_,os,bare⟩
        cases q:H b with
        | none=>exact un.keep b o e q (by intro z;exact absurd (show b∈([]:List Addr) from z) (by simp)) (by simp)
        | some u =>
          rcases hO b with z | ⟨ob,xs,z⟩
          · rw [q] at z;cases z
          · have z2:=un.frzs b ob _ z
            obtain ⟨e1,_⟩:=hok b _ z
            obtain ⟨e2,_⟩:=hok' b _ z2
            rw [e] at e1;cases e1
            exact e2
  cases hk:K.lookup a with
  | some o =>
    have e:=KX a o hk
    rw [ha] at e
    cases e
    refine core (fun _=>none) (fun _=>.inl rfl) (.inr ⟨_,vs.toArray,_,hk,rfl,rfl,rfl,by rw [List.size_toArray,lenV];exact hl,by simpa using rv⟩) (fun b u z=>by have z':(none:Option HO) = some u:=z;cases z') (fun b z=>absurd rfl z) fun z=>absurd rfl z
  | none =>
    refine core (fun b=>if b = a then some (.frz { cls:=.type "list",data:=.seq vs.toArray } (.lst (ns.map V.int))) else none) (fun b=>?_) (.inl (.inr ⟨{ cls:=.type "list",data:=.seq vs.toArray },if_pos rfl⟩)) (fun b u z=>?_) (fun b z=>?_) fun _=>hk
    · by_cases hb:b = a
      · exact .inr ⟨_,_,if_pos hb⟩
      · exact .inl (if_neg hb)
    · by_cases hb:b = a
      · have z':=(if_pos hb).symm.trans z
        cases z'
        subst hb
        exact ⟨ha,by rw [List.length_map];exact hl,vs,_,rv,ha⟩
      · have z':=(if_neg hb).symm.trans z
        cases z'
    · by_cases hb:b = a
      · exact hb
      · exact absurd (if_neg hb) z
end L2
namespace L2
open PySem PySem.Spec PyProof.Rows
abbrev KOf {K:PySem.W.Frag} {h:Heap} (_:K.In h):PySem.W.Frag:=K
theorem walk_of {l:PySem.W.OpenLaw} {n k:Nat} {q:Program} {loose:List Str} {XP:(Str→Option Value)→Heap→Prop} {YP:World→Heap→Prop} {d:DefRec} {K:Params→PySem.W.Frag} {CX:World→CXT} {sp:World→Sp} {x:Str}
    (hn:l.most = some n) (hn2:n≤sizeLine) (hdf:d.params.defaults = []) (hr:Room k callerA)
    (hY:∀ (w:World) (h:Heap),YP w h→(K w.params).In h)
    (F:∀ (w:World) (mg:Str→Option Value) (fa:Addr) (h:Heap),(K w.params).In h→h.Ns mainGlobals mg→mg d.name = some (.ref fa) →
      ∃ fd:FuncData,(∀ (s:Shared) (u:Value),BindsTo s fd ⟨[u],[]⟩ [(x,u)]) ∧
        ∀ base:Heap,(K w.params).In base→base.Ns mainGlobals mg→FnOk l.prog w (K w.params) mg base (CX w) k fa fd [x] (sp w))
    (hsp:∀ (w:World) (H:Hp) (a:Addr) (ns:List Int),ns.length≤n→Only H→SqL (K w.params) H a (ns.map V.int)→sp w [.ref a] H (fun v _=>v = .bl true) fun _ _ _=>False)
    (hCX:∀ (w:World) (H:Hp) (s:Shared) (e:Value) (s':Shared),CX w [] H s (fun _ _ _=>False) e s'→False) :
    PySem.W.WalkO q loose XP YP l.row.toRowW d [] (fun f vs=>PySem.call f vs):=by
  refine Att.attach_call hn hdf fun w s₀ s₁ mg mb fa o pm cd doc a vs ns G Y ho hd hcd hmg hobj hints hlen hg=>?_
  have KX:=hY w _ Y
  obtain ⟨fd,hb,hF⟩:=F w mg fa _ KX G.T.g hmg
  exact law_call KX G.T.g G.T.b G.T.builtins G.T.nolimit hg hobj hints (Nat.le_trans hlen hn2) hr hF hb (fun H hO hS=>hsp w H a ns hlen hO hS) fun H e s'=>hCX w H s₁ e s'
theorem walk_ofK {l:PySem.W.OpenLaw} {n k:Nat} {q:Program} {loose:List Str} {XP:(Str→Option Value)→Heap→Prop} {YP:World→Heap→Prop} {d:DefRec} {K:Params→PySem.W.Frag} {CX:CXT} {sp:PySem.W.Frag→Sp} {x:Str}
    (hn:l.most = some n) (hn2:n≤sizeLine) (hdf:d.params.defaults = []) (hr:Room k callerA)
    (hY:∀ (w:World) (h:Heap),YP w h→(K w.params).In h)
    (F:∀ (w:World) (mg:Str→Option Value) (fa:Addr) (h:Heap),(K w.params).In h→h.Ns mainGlobals mg→mg d.name = some (.ref fa) →
      ∃ fd:FuncData,(∀ (s:Shared) (u:Value),BindsTo s fd ⟨[u],[]⟩ [(x,u)]) ∧
        ∀ base:Heap,(K w.params).In base→base.Ns mainGlobals mg→FnOk l.prog w (K w.params) mg base CX k fa fd [x] (sp (K w.params)))
    (hsp:∀ (K:PySem.W.Frag) (H:Hp) (a:Addr) (ns:List Int),ns.length≤n→Only H→SqL K H a (ns.map V.int)→sp K [.ref a] H (fun v _=>v = .bl true) fun _ _ _=>False)
    (hCX:∀ (H:Hp) (s:Shared) (e:Value) (s':Shared),CX [] H s (fun _ _ _=>False) e s'→False) :
    PySem.W.WalkO q loose XP YP l.row.toRowW d [] (fun f vs=>PySem.call f vs) :=
  walk_of (K:=K) (CX:=fun _=>CX) (sp:=fun w=>sp (K w.params)) hn hn2 hdf hr hY F (fun w H a ns h1 h2 h3=>hsp (K w.params) H a ns h1 h2 h3) fun _ H s e s'=>hCX H s e s'
end L2
namespace L2
open PySem PySem.Spec PyProof.Rows
def inClass (s:Stmt) (j:Nat):Stmt:=match s with
  | .ClassDef _ _ _ body _ _ _ _ _ _ _=>body.getD j (.Pass ⟨0,0,0,0⟩)
  | _=>.Pass ⟨0,0,0,0⟩
def defArgs (s:Stmt):Arguments:=match s with
  | .FunctionDef _ a _ _ _ _ _ _ _ _=>a
  | _=>{ posonlyargs:=[],args:=[],vararg:=none,kwonlyargs:=[],kw_defaults:=[],kwarg:=none,defaults:=[] }
def defBody (s:Stmt):List Stmt:=match s with
  | .FunctionDef _ _ b _ _ _ _ _ _ _=>b
  | _=>[]
def defScope (s:Stmt):Scope:=match s with
  | .FunctionDef _ _ _ _ _ _ sc _ _ _=>sc
  | _=>{ kind:=.function,names:=[],isGenerator:=false,isCoroutine:=false }
abbrev CX0:CXT:=fun _ _ _ _ _ _=>False
abbrev E0:XK:=fun _ _ _=>False
theorem pass0 {X:Cx}:Passes CX0 X E0:=fun _ _ _ _ _ _ _ h=>h.elim
structure Fun (K:PySem.W.Frag) (x qual:Str) (st:Stmt) (f:Addr) (fd:FuncData):Prop where
  ex:∃ (oc:Value) (od:Option Addr) (kV doc pm:Value) (an:Option Addr) (cdv ct:Value) (osl:Array (Option Value)),
    fd = PySem.W.fnOf x qual (defArgs st) (defBody st) (defScope st) .none kV doc pm an cdv ct∧K.lookup f = some ⟨oc,od,.func fd,osl⟩∧PySem.W.codeIn K cdv qual = true
  kp:PySem.W.keepIn K (.ref f) = true
section
variable {P:Program} {w:World} {K:PySem.W.Frag} {mg:Str→Option Value} {base:Heap}
theorem Fun.ok {x qual:Str} {st:Stmt} {f:Addr} {fd:FuncData} {N ps:List Str} {k:Nat} {sp:Sp} (F:Fun K x qual st f fd) (S:FnScope N ps (defScope st)) (len:∀ vs H Q E,sp vs H Q E→vs.length = ps.length)
    (hbody:∀ (cdv:Value) (A:Around) (outer:List Env) (s:Shared) (H:Hp) (vs:List V) (Q:VK) (E:XK),Room k (A.deeper (envOfC qual (defScope st) s.heap.objs.size f cdv))→sp vs H Q E →
      ∃ t,PSs (cxOf CX0 P w K mg base N qual (defScope st) f cdv A outer s H E).nox (defBody st) t∧t { nx:=fun _ H'=>Q .non H',rt:=Q } (start N vs) H):FnOk P w K mg base CX0 (k + 1) f fd ps sp:=by
  obtain ⟨oc,od,kV,doc,pm,an,cdv,ct,osl,rfl,lk,hcd⟩:=F.ex
  refine fn_of lk hcd S len fun A outer s H vs Q E hr hsp=>?_
  obtain ⟨t,h,q⟩:=hbody cdv A outer s H vs Q E hr hsp
  exact ⟨t,h.nox,q⟩
theorem Fun.binds {x qual:Str} {st:Stmt} {f:Addr} {fd:FuncData} {ps:List Str} (F:Fun K x qual st f fd)
    (h:∀ (kV doc pm:Value) (an:Option Addr) (cdv ct:Value) (us:List Value),us.length = ps.length→bindArgs (PySem.W.fnOf x qual (defArgs st) (defBody st) (defScope st) .none kV doc pm an cdv ct) ⟨us,[]⟩ = pure (ps.zip us)):Binds K fd ps []:=by
  obtain ⟨oc,od,kV,doc,pm,an,cdv,ct,osl,rfl,lk,hcd⟩:=F.ex
  exact .all (h kV doc pm an cdv ct)
theorem fun_mk {x qual:Str} {st:Stmt} {f:Addr} {oc:Value} {od an:Option Addr} {osl:Array (Option Value)} {kV doc pm cdv ct:Value} (l:K.lookup f = some ⟨oc,od,.func (PySem.W.fnOf x qual (defArgs st) (defBody st) (defScope st) .none kV doc pm an cdv ct),osl⟩)
    (c:PySem.W.codeIn K cdv qual = true) (k:PySem.W.keepIn K (.ref f) = true):Fun K x qual st f (PySem.W.fnOf x qual (defArgs st) (defBody st) (defScope st) .none kV doc pm an cdv ct):=⟨⟨oc,od,kV,doc,pm,an,cdv,ct,osl,rfl,l,c⟩,k⟩
end
theorem hu_of {A:Around} {k:Nat} (hr:Room k A):A.units + 1 < cLine:=Nat.lt_of_le_of_lt (Nat.add_le_add_left (by decide:1≤64) _) hr.units
theorem small1000 {n:Nat} (h:n≤1000):n < sizeLine:=Nat.lt_of_le_of_lt h (by decide)
section
variable {X:Cx}
theorem pv (i:Nat) {x:Str} {pos:Pos} (hN:X.N[i]? = some x:=by rfl) (hv:Vis X.env.scope x:=by first | exact Or.inl rfl | exact Or.inr (Or.inl rfl) | exact Or.inr (Or.inr rfl)) (hd:(x == ("__debug__":Str)) = false:=by decide)
    (hcd:(x == ("__classdict__":Str)) = false:=by decide):PE X (.Name x pos) (tVar i):=pe_var hN hv hd hcd
end
theorem iteF {A B:Prop} (h:B):if false = true then A else B:=by
  rw [if_neg Bool.false_ne_true]
  exact h
theorem iteT {A B:Prop} (h:A):if true = true then A else B:=by
  rw [if_pos rfl]
  exact h
def Same (H H':Hp):Prop:=∀ b o,H b = some o→H' b = some o
theorem Same.refl (H:Hp):Same H H:=fun _ _ h=>h
theorem Same.trans {H H1 H2:Hp} (a:Same H H1) (b:Same H1 H2):Same H H2:=fun c o h=>b c o (a c o h)
theorem Same.free {H H':Hp} (e:Same H H') {l:Addr} (h:H' l = Option.none):H l = Option.none:=by
  cases q:H l with
  | none=>rfl
  | some o =>
    rw [e l o q] at h
    cases h
theorem Same.seq {K:PySem.W.Frag} {H H':Hp} {a:Addr} {xs:List V} (e:Same H H') (h:SqL K H a xs):SqL K H' a xs:=by
  rcases h with (h | ⟨o,h⟩) | h
  · exact .inl (.inl (e _ _ h))
  · exact .inl (.inr ⟨o,e _ _ h⟩)
  · exact .inr h
section
variable {κ:Type} [DecidableEq κ]
theorem valV_in {kvs:List (κ×V)} {k:κ} {v:V} (h:valV kvs k = some v):k∈kvs.map (·.1):=by
  have q:(kvs.any fun kv=>decide (kv.1 = k)) = true:=by
    rw [valV_any,h]
    all_goals rfl
  obtain ⟨p,hp,e⟩:=List.any_eq_true.mp q
  exact List.mem_map.mpr ⟨p,hp,of_decide_eq_true e⟩
theorem nd_snoc:∀ {l:List κ} {k:κ},l.Nodup→¬ k∈l→(l ++ [k]).Nodup
  | [],k,_,_=>by simp
  | a :: r,k,h,hk=>by
    obtain ⟨h1,h2⟩:=List.nodup_cons.mp h
    show (a :: (r ++ [k])).Nodup
    refine List.nodup_cons.mpr ⟨fun m=>?_,nd_snoc h2 fun m=>hk (List.mem_cons.mpr (Or.inr m))⟩
    rcases List.mem_append.mp m with q | q
    · exact h1 q
    · exact hk (List.mem_cons.mpr (Or.inl (List.mem_singleton.mp q).symm))
end
end L2
namespace L2
open PySem PySem.Spec PyProof.Rows
def Cx.inC (X:Cx) (sc:Scope) (cl:List (Str×Addr)) (C:Addr) (N':List Str) (ex:List Addr) (s:Shared) (H:Hp):Cx where
  prog:=X.prog
  w:=X.w
  K:=X.K
  mg:=X.mg
  base:=X.base
  A:=X.A
  N:=N'
  s₀:=s
  H₀:=H
  env:=compEnvC sc cl C X.env
  outer:=X.stack
  stack:=X.stack
  ex:=ex
  fn:=fun _=>false
  calm:=X.calm
  pn:=[]
  xe:=fun _ _=>False
theorem closure_go (env:Env):∀ (names:List (Str×NameKind)) (cs:List (Str×Addr)),(∀ x,(x,NameKind.free)∈names→∃ c,env.cells.lookup x = some c) →
    (∀ x c,cs.lookup x = some c→env.cells.lookup x = some c) →
    ∃ cl:List (Str×Addr),(forIn names cs fun (p:Str×NameKind) (r:List (Str×Addr))=>if (p.2 == NameKind.free) = true then do let c ← cellOf env p.1;pure (ForInStep.yield ((p.1,c) :: r)) else pure (ForInStep.yield r):Sem _) = pure cl ∧
      (∀ x c,cl.lookup x = some c→env.cells.lookup x = some c)∧(∀ x,(x,NameKind.free)∈names→∃ c,cl.lookup x = some c)∧(∀ x c,cs.lookup x = some c→∃ c',cl.lookup x = some c')
  | [],cs,_,h=>⟨cs,by simp only [List.forIn_nil],h,fun x hx=>absurd hx (by simp),fun x c e=>⟨c,e⟩⟩
  | (n,k) :: r,cs,hf,h=>by
    by_cases hk:k = NameKind.free
    · subst hk
      obtain ⟨c,hc⟩:=hf n List.mem_cons_self
      have hco:cellOf env n = pure c:=by unfold cellOf;rw [hc]
      obtain ⟨cl,e,h1,h2,h3⟩:=closure_go env r ((n,c) :: cs) (fun x hx=>hf x (List.mem_cons_of_mem _ hx)) (fun x c' e=>by
        rw [List.lookup_cons] at e
        cases hx:x == n with
        | true=>rw [hx] at e;cases e;rw [beq_iff_eq.mp hx];exact hc
        | false=>rw [hx] at e;exact h x c' e)
      refine ⟨cl,?_,h1,fun x hx=>?_,fun x c' e'=>?_⟩
      · rw [List.forIn_cons]
        simp only [hco,beq_self_eq_true,if_true,pure_bind]
        exact e
      · rcases List.mem_cons.mp hx with z | z
        · cases z
          exact h3 n c (by rw [List.lookup_cons,beq_self_eq_true])
        · exact h2 x z
      · refine h3 x (if x == n then c else c') ?_
        rw [List.lookup_cons]
        cases hx:x == n with
        | true=>simp
        | false=>simpa using e'
    · obtain ⟨cl,e,h1,h2,h3⟩:=closure_go env r cs (fun x hx=>hf x (List.mem_cons_of_mem _ hx)) h
      refine ⟨cl,?_,h1,fun x hx=>?_,h3⟩
      · rw [List.forIn_cons]
        have hb:(k == NameKind.free) = false:=by simpa using hk
        simp only [hb,Bool.false_eq_true,if_false,pure_bind]
        exact e
      · rcases List.mem_cons.mp hx with z | z
        · cases z;exact absurd rfl hk
        · exact h2 x z
theorem closure_ok {sc:Scope} {env:Env} (hf:∀ x,(x,NameKind.free)∈sc.names→∃ c,env.cells.lookup x = some c) :
    ∃ cl:List (Str×Addr),closureFor sc env = pure cl∧(∀ x c,cl.lookup x = some c→env.cells.lookup x = some c)∧(∀ x,(x,NameKind.free)∈sc.names→∃ c,cl.lookup x = some c):=by
  obtain ⟨cl,e,h1,h2,_⟩:=closure_go env sc.names [] hf (fun x c e=>by cases e)
  refine ⟨cl,?_,h1,h2⟩
  unfold closureFor
  simp only [bind_pure]
  exact e
def PIf (X:Cx) (ifs:List Expr) (t:TT):Prop :=
  ∀ (pins:List (Addr×Obj)) (s:Shared) (σ:St) (H:Hp) (Q:Bool→Hp→Prop),Inv X pins σ H s→t σ H Q →
    wpAny (model X.prog X.w) X.A (forIn ifs true fun c r=>if r = true then do let ok ← isTrue c X.env (eval c X.env);pure (ForInStep.yield ok) else pure (ForInStep.yield r)) (TP X pins σ Q) X.xe s
def tYes:TT:=fun _ H Q=>Q true H
theorem pif_nil {X:Cx}:PIf X [] tYes:=fun _ _ _ H _ I h=>wpAny_tests_nil ⟨H,I,h⟩
theorem pif_one {X:Cx} {c:Expr} {t:TT} (h:PT X c t):PIf X [c] t:=fun pins s σ H Q I hw=>wpAny_tests_one (h pins s σ H Q I hw)
def σC (n:Nat) (cap:List Nat) (σ:St):St:=List.replicate n none ++ cap.map fun j=>(σ[j]?).join
def NC (X:Cx) (own:List Str) (cap:List Nat):List Str:=own ++ cap.map fun j=>X.N.getD j Str.empty
def Caps (X:Cx) (sc:Scope):List Nat→Prop
  | []=>True
  | j :: r=>(∃ x,X.N[j]? = some x∧sc.names.lookup x = some .free∧(X.env.kindOf x = some .cell∨X.env.kindOf x = some .free))∧Caps X sc r
theorem Caps.mem {X:Cx} {sc:Scope}:∀ {cap:List Nat} {j:Nat},Caps X sc cap→j∈cap→∃ x,X.N[j]? = some x∧sc.names.lookup x = some .free∧(X.env.kindOf x = some .cell∨X.env.kindOf x = some .free)
  | [],_,_,h=>absurd h (by simp)
  | _ :: _,_,c,h=>(List.mem_cons.mp h).elim (fun e=>e ▸ c.1) fun h'=>c.2.mem h'
theorem lookup_mem {α β:Type} [BEq α] [LawfulBEq α]:∀ {l:List (α×β)} {x:α} {b:β},l.lookup x = some b→(x,b)∈l
  | [],_,_,h=>by cases h
  | (y,c) :: r,x,b,h=>by
    rw [List.lookup_cons] at h
    cases e:x == y with
    | true=>rw [e] at h;cases h;rw [beq_iff_eq.mp e];exact List.mem_cons_self
    | false=>rw [e] at h;exact List.mem_cons_of_mem _ (lookup_mem h)
theorem lookup_mapk (f:Str×NameKind→Str×NameKind) (hf:∀ p,(f p).1 = p.1) (x:Str):∀ (names:List (Str×NameKind)),(names.map f).lookup x = (names.lookup x).map fun k=>(f (x,k)).2
  | []=>rfl
  | (n,k) :: r=>by
    have ih:=lookup_mapk f hf x r
    rw [List.map_cons,List.lookup_cons]
    obtain ⟨a,b,e⟩:∃ a b,f (n,k) = (a,b):=⟨_,_,rfl⟩
    have ea:a = n:=by have:=hf (n,k);rw [e] at this;exact this
    subst ea
    rw [e,List.lookup_cons]
    cases hx:x == a with
    | true =>
      have hx':=beq_iff_eq.mp hx
      subst hx'
      simp [e]
    | false=>simpa using ih
theorem relabel_lookup {env:Env} {sc:Scope} {x:Str} {k:NameKind} (h:(relabel sc env).names.lookup x = some k):(sc.names.lookup x = some k)∨(k = .cell∧sc.names.lookup x = some .free):=by
  unfold relabel at h
  rw [lookup_mapk _ (fun p=>by obtain ⟨n,k⟩:=p;dsimp only;split <;> rfl)] at h
  cases e:sc.names.lookup x with
  | none=>rw [e] at h;cases h
  | some k0 =>
    rw [e] at h
    simp only [Option.map_some,Option.some.injEq] at h
    split at h
    · rename_i hc
      simp at hc
      right
      exact ⟨h.symm,by rw [hc.1.1]⟩
    · left;exact congrArg some h
theorem relabel_free {env:Env} {sc:Scope} {x:Str} (h:sc.names.lookup x = some .free):(relabel sc env).names.lookup x = some .cell∨(relabel sc env).names.lookup x = some .free:=by
  unfold relabel
  rw [lookup_mapk _ (fun p=>by obtain ⟨n,k⟩:=p;dsimp only;split <;> rfl),h]
  simp only [Option.map_some]
  split
  · exact .inl rfl
  · exact .inr rfl
section
variable {prog:Program} {w:World} {A:Around} {R:Result→Shared→Prop} {s:Shared}
theorem comp_loop {elt target iter:Expr} {ifs:List Expr} {scope:Scope} {pos:Pos} {it acc:Value} {env:Env} (I:Nat→Shared→Prop)
    (turn:∀ n s,I n s→wpAny (model prog w) A (pyNext it) (fun r s₁=>match r with
      | none=>R (.ok .next) s₁
      | some v=>wpAny (model prog w) A (letOwnedTupleGo target it v) (fun _ s₀=>wpAny (model prog w) A (assign target env v) (fun _ s₂ =>
          wpAny (model prog w) A (forIn ifs true fun c r=>if r = true then do let ok ← isTrue c env (eval c env);pure (ForInStep.yield ok) else pure (ForInStep.yield r)) (fun ok s₃ =>
            if ok = true then wpAny (model prog w) A (eval elt env) (fun x s₄ =>
              wpAny (model prog w) A (call (.builtin "list.append") [acc,x]) (fun _ s₅=>∃ m,m < n∧I m s₅) (fun _ _=>False) s₄) (fun _ _=>False) s₃
            else ∃ m,m < n∧I m s₃) (fun _ _=>False) s₂) (fun _ _=>False) s₀) (fun _ _=>False) s₁) (fun _ _=>False) s)
    (n:Nat) (h:I n s) :
    codeAny (model prog w) A (.compLoop (.ListComp elt [⟨target,iter,ifs,0⟩] scope pos) 0 it acc env) R s:=by
  refine codeAny_loop rfl I (fun n s hI=>?_) n h
  show wpAny _ A ((compTurn (.ListComp elt [⟨target,iter,ifs,0⟩] scope pos) 0 it acc env).onRaise (fun x=>do noteFrame x env;theTreesLotGoes x)) _ _ s
  refine wpAny_noted ?_
  rw [compTurn_list]
  refine wpAny_bind (wpAny_standAt (wpAny_bind (wpAny_mono (turn n s hI) (fun r s₁ h₁=>?_) fun _ _ h'=>h'.elim)))
  cases r with
  | none=>exact wpAny_pure h₁
  | some v =>
    refine wpAny_bind (wpAny_mono h₁ (fun _ s₀ h₀=>?_) fun _ _ h'=>h'.elim)
    refine wpAny_bind (wpAny_mono h₀ (fun _ s₂ h₂=>wpAny_bind (wpAny_mono h₂ (fun ok s₃ h₃=>?_) fun _ _ h'=>h'.elim)) fun _ _ h'=>h'.elim)
    cases ok with
    | false=>exact wpAny_pure ⟨rfl,h₃⟩
    | true =>
      exact wpAny_bind (wpAny_bind (wpAny_mono h₃ (fun x s₄ h₄=>wpAny_bind (wpAny_mono h₄ (fun _ s₅ h₅=>wpAny_pure (wpAny_pure ⟨rfl,h₅⟩)) fun _ _ h'=>h'.elim)) fun _ _ h'=>h'.elim))
end
end L2
namespace L2
open PySem PySem.Spec PyProof.Rows
def CompVC (J:It) (g:TG) (tt:TT) (te:TE) (σ':St) (Post:VK) (H1:Hp):Prop:=∃ W:Nat→Nat→List V→Hp→Prop,(∃ m,W 0 m [] H1)∧∀ i m ys H,W i m ys H→ys.length < sizeLine ∧
   ((J.stop i H∧∀ p,H p = none→Post (.ref p) (upd H p (.lst ys))) ∨
    (J.go i H∧∀ x H',J.yld i H x H'→g x σ' H' fun σ2 H2=>tt σ2 H2 fun b H3=>if b = true then te σ2 H3 fun y H4=>∃ m',m' < m∧W (i + 1) m' (ys ++ [y]) H4 else ∃ m',m' < m∧W (i + 1) m' ys H3))
def tComp (n:Nat) (cap:List Nat) (wi:TI) (g:TG) (tt:TT) (te:TE):TE:=fun σ H Q=>wi σ H fun J H1=>CompVC J g tt te (σC n cap σ) Q H1
theorem notfp {h:Heap} {b:Addr} {n:Nat} (e:n≤b) {o:Obj} (q:h.get? b = some o) (hn:h.objs.size≤n):False:=absurd (Nat.lt_of_lt_of_le (Heap.lt_size q) (Nat.le_trans hn e)) (Nat.lt_irrefl _)
section
variable {X:Cx} {pins:List (Addr×Obj)} {σ:St} {H2:Hp} {s2:Shared} {sc:Scope} {cl:List (Str×Addr)} {own:List Str} {cap:List Nat} {fp:List Addr}
theorem Inv.inC {h₁:Heap} {tk:Nat} {C:Addr} (I:Inv X pins σ H2 s2) (hkind:sc.kind = .function) (hcl1:∀ x c,cl.lookup x = some c→X.env.cells.lookup x = some c) (hcl2:∀ x,(x,NameKind.free)∈sc.names→∃ c,cl.lookup x = some c)
    (hcell:∀ y∈sc.names,y.2≠.cell) (hcap:Caps X sc cap) (hC:s2.heap.objs.size≤C) (hfp:∀ b∈fp,FpOk X pins H2 b) (hfo:∀ b∈fp,∃ o,s2.heap.get? b = some o) {m:Str→Option Value} (hns:h₁.Ns C m)
    (old:∀ b o,s2.heap.get? b = some o→h₁.get? b = some o):Inv (X.inC sc cl C (NC X own cap) fp s2 H2) [] (σC own.length cap σ) H2 { s2 with heap:=h₁,toks:=tk }:=by
  have hlt:∀ {b:Addr} {o:Obj},s2.heap.get? b = some o→b≠C:=fun e=>Nat.ne_of_lt (Nat.lt_of_lt_of_le (Heap.lt_size e) hC)
  have mem:∀ {x:Str} {k:NameKind},sc.names.lookup x = some k→(x,k)∈sc.names:=fun e=>lookup_mem e
  refine ⟨⟨I.ok.mod,hkind,I.ok.glob,I.ok.blt,hC,fun x y c a b=>I.ok.inj x y c (hcl1 x c a) (hcl1 y c b),fun x hx=>?_,fun x c h=>(by cases h),I.ok.hd,I.ok.frames,.inl rfl,fun b hb=>⟨?_,fun x c e=>?_⟩,I.bs,Nat.le_trans I.ok.bsz I.sz,fun b o e hb=>?_,fun b hb=>?_,I.stack,I.stkFree⟩,
    rfl,I.bare,Un.kept old,⟨m,hns,fun i x v e1 e2 e3=>?_⟩,fun x c e=>?_,I.hok.fresh hC,fun x c e=>I.freeC x c (hcl1 x c e),fun p hp=>absurd (show p∈([]:List (Addr×Obj)) from hp) (by simp),I.hok.kept old,?_⟩
  · have hx:(relabel sc X.env).names.lookup x = some .cell∨(relabel sc X.env).names.lookup x = some .free:=hx
    refine hcl2 x ?_
    rcases hx with hx | hx
    · rcases relabel_lookup hx with q | ⟨_,q⟩
      · exact absurd rfl (hcell _ (mem q))
      · exact mem q
    · rcases relabel_lookup hx with q | ⟨q,_⟩
      · exact mem q
      · cases q
  · obtain ⟨o,e⟩:=hfo b hb
    exact hlt e
  · exact (hfp b hb).2.2.2.2.1 x c (hcl1 x c e)
  · obtain ⟨_,_,_,h4,_⟩:=hfp b hb
    rcases h4 with h4 | h4
    · exact I.ok.noex b o e h4
    · exact notfp h4 e (I.ok.bsz)
  · show b∉frs X.stack
    intro z
    rcases List.mem_cons.mp (I.stkSub b z) with q | q
    · exact (hfp b hb).2.1 q
    · exact (hfp b hb).2.2.1 q
  · have e1:(NC X own cap)[i]? = some x:=e1
    unfold σC at e2
    unfold NC at e1
    by_cases hi:i < own.length
    · rw [List.getElem?_append_left (by simpa using hi),List.getElem?_replicate] at e2
      split at e2 <;> cases e2
    · rw [List.getElem?_append_right (by simpa using hi),List.length_replicate,List.getElem?_map] at e2
      rw [List.getElem?_append_right (by simpa using hi),List.getElem?_map] at e1
      cases ej:cap[i - own.length]? with
      | none=>rw [ej] at e2;cases e2
      | some j =>
        rw [ej] at e1 e2
        simp only [Option.map_some,Option.some.injEq] at e1 e2
        obtain ⟨y,hy,hfr,hk⟩:=hcap.mem (List.mem_of_getElem? ej)
        have exy:x = y:=by rw [← e1,List.getD_eq_getElem?_getD,hy];rfl
        subst exy
        have e2':σ[j]? = some (some v):=by
          cases q:σ[j]? with
          | none=>rw [q] at e2;cases e2
          | some o=>rw [q] at e2;exact congrArg some e2
        have hvis:Vis X.env.scope x:=by
          rcases hk with hk | hk
          · exact .inr (.inl hk)
          · exact .inr (.inr hk)
        obtain ⟨m0,hn0,hl0⟩:=I.loc
        obtain ⟨u,r,l⟩:=hl0 j x v hy e2' hvis
        refine ⟨u,r,.inr ⟨relabel_free hfr,?_⟩⟩
        rcases l with ⟨q,_⟩ | ⟨_,c,ec,z⟩
        · rcases hk with hk | hk <;> (rw [hk] at q;cases q)
        · obtain ⟨c',ec'⟩:=hcl2 x (mem hfr)
          have:c' = c:=by have:=hcl1 x c' ec';rw [ec] at this;exact (Option.some.inj this).symm
          subst this
          obtain ⟨oc,hoc,hd⟩:=z
          exact ⟨c',ec',oc,old c' oc hoc,hd⟩
  · obtain ⟨v,oc,hoc,hd⟩:=I.cell x c (hcl1 x c e)
    exact ⟨v,oc,old c oc hoc,hd⟩
  · unfold σC NC Cx.inC
    simp
theorem Inv.outC {s':Shared} {H3:Hp} {C D:Addr} {N':List Str} {σ':St} {pins':List (Addr×Obj)} {ys:List V} {its:List Value} {n:Nat} (I:Inv X pins σ H2 s2) (hfp:∀ b∈fp,FpOk X pins H2 b) (hD:s2.heap.objs.size≤D)
    (I4:Inv (X.inC sc cl C N' fp s2 H2) pins' σ' H3 s') (hl:s'.heap.get? D = some { cls:=.type "list",data:=.seq its.toArray n }) (hv:Vals ys its) (hz:ys.length≤sizeLine) (hn:H3 D = none):Inv X pins σ (upd H3 D (.lst ys)) s':=by
  have ltD:∀ {b:Addr} {o:Obj},s2.heap.get? b = some o→b≠D:=fun e=>Nat.ne_of_lt (Nat.lt_of_lt_of_le (Heap.lt_size e) hD)
  have B:Un (frs X.stack) fp H2 H3 s2.heap s'.heap:=I4.base
  have ne:∀ {b:Addr} {o:HO},H3 b = some o→b≠D:=fun e z=>by rw [z,hn] at e;cases e
  refine I.call' (ch:=fp) I4.os ⟨B.keep,B.slot,fun b o e h0 hx=>?_,B.there,fun b xs e=>?_,fun b o u e=>?_,fun b ps e=>?_⟩ (fun b u e=>?_) I4.bare (fun b hb=>?_)
  · rw [upd_ne (ltD e)];exact B.free b o e h0 hx
  · have:=B.tups b xs e;rw [upd_ne (ne this)];exact this
  · have:=B.frzs b o u e;rw [upd_ne (ne this)];exact this
  · obtain ⟨more,this⟩:=B.tbls b ps e
    exact ⟨more,by rw [upd_ne (ne this)];exact this⟩
  · by_cases hb:b = D
    · subst hb
      rw [upd_same] at e
      cases e
      exact ⟨hz,its,n,hv,hl⟩
    · rw [upd_ne hb] at e
      exact (I4.hok b u e).stay (fun _ _ _ q=>q) (fun c q=>by rw [upd_ne (ne q)];exact q) (fun c xs q=>by rw [upd_ne (ne q)];exact q)
  · obtain ⟨f0,f1,f2,f3,f4,f5⟩:=hfp b hb
    exact ⟨f3,f1,f4,f5⟩
theorem comp_core {J:It} {it:Addr} {tn:Nat→Heap→Prop} {tg elt iter:Expr} {ifs:List Expr} {pos:Pos} {g:TG} {tt:TT} {te:TE} {RR:Value→Addr→Result→Shared→Prop} {Post:VK}
    (hc:X.calm = true) (I:Inv X pins σ H2 s2) (T:Turn X.prog X.w X.K tg J fp it tn) (st2:tn 0 s2.heap) (f2:∀ b∈fp,FpOk X pins H2 b)
    (hkind:sc.kind = .function) (hcl1:∀ x c,cl.lookup x = some c→X.env.cells.lookup x = some c) (hcl2:∀ x,(x,NameKind.free)∈sc.names→∃ c,cl.lookup x = some c) (hcell:∀ y∈sc.names,y.2≠.cell) (hcap:Caps X sc cap)
    (hg:∀ cl C fp s H,PG (X.inC sc cl C (NC X own cap) fp s H) tg g) (ht:∀ cl C fp s H,PIf (X.inC sc cl C (NC X own cap) fp s H) ifs tt) (he:∀ cl C fp s H,PE (X.inC sc cl C (NC X own cap) fp s H) elt te)
    (hw:∃ W:Nat→Nat→List V→Hp→Prop,(∃ m,W 0 m [] H2)∧∀ i m ys H,W i m ys H→ys.length < sizeLine ∧
      ((J.stop i H∧∀ p,H p = none→Post (.ref p) (upd H p (.lst ys))) ∨
      (J.go i H∧∀ x H',J.yld i H x H'→g x (σC own.length cap σ) H' fun σ2 H2=>tt σ2 H2 fun b H3=>if b = true then te σ2 H3 fun y H4=>∃ m',m' < m∧W (i + 1) m' (ys ++ [y]) H4 else ∃ m',m' < m∧W (i + 1) m' ys H3)))
    (hRR:∀ (D C:Addr) (H':Hp) (s':Shared),Inv X pins σ H' s'→(∃ m,s'.heap.Ns C m)→FpOk X pins H' C→H' D≠none→Post (.ref D) H'→RR (.ref D) C (.ok .next) s') {E:Value→Shared→Prop} :
    wpAny (model X.prog X.w) X.A (newList []) (fun acc s₃=>wpAny (model X.prog X.w) X.A (newFunctionEnv sc X.env.globals cl [] X.env.qual none .none (some X.env)) (fun cenv s₄ =>
      codeAny (model X.prog X.w) X.A (.compStart (.ListComp elt [⟨tg,iter,ifs,0⟩] sc pos) 0 (.ref it) acc { cenv with scope:=relabel sc X.env }) (RR acc cenv.locals) s₄) E s₃) E s2:=by
  obtain ⟨W,⟨m0,w0⟩,turn⟩:=hw
  refine wpAny_newObj_type (wpAny_newFunctionEnv hcell (by intro y hy;simp at hy) (fun h₁ hns₁ hsb₁=>?_) hkind)
  dsimp only at hns₁ hsb₁ ⊢
  generalize hH:s2.heap.push { cls:=.type "list",dict:=none,data:=.seq ([]:List Value).toArray } = HH at hns₁ hsb₁ ⊢
  have hC:HH.objs.size = s2.heap.objs.size + 1:=by rw [← hH,Heap.size_push]
  have hDC:s2.heap.objs.size≠HH.objs.size:=by rw [hC];exact Nat.ne_of_lt (Nat.lt_succ_self _)
  have hCle:s2.heap.objs.size≤HH.objs.size:=by rw [hC];exact Nat.le_succ _
  have old:∀ b o,s2.heap.get? b = some o→h₁.get? b = some o:=fun b o e=>hsb₁.extBut b o (Nat.ne_of_lt (Nat.lt_of_lt_of_le (Heap.lt_size e) hCle)) (Heap.get?_push_of_some _ (hH ▸ Heap.get?_push_of_some _ e))
  have hacc:h₁.PlainList s2.heap.objs.size #[]:=⟨_,hsb₁.extBut _ _ hDC (Heap.get?_push_of_some _ (hH ▸ Heap.get?_push_size _ rfl))⟩
  have hfo:∀ b∈fp,∃ o,s2.heap.get? b = some o:=fun b hb=>let ⟨o,e,_⟩:=T.obj 0 s2.heap st2 b hb;⟨o,e⟩
  have hst₁:tn 0 h₁:=T.keep 0 _ _ st2 fun b _ o e=>old b o e
  generalize hD:s2.heap.objs.size = D at hacc hDC hCle
  have hDle:s2.heap.objs.size≤D:=Nat.le_of_eq hD
  have hCle2:s2.heap.objs.size≤HH.objs.size:=by rw [hD];exact hCle
  let X':Cx:=X.inC sc cl HH.objs.size (NC X own cap) fp s2 H2
  have I₁:Inv X' [] (σC own.length cap σ) H2 { s2 with heap:=h₁,toks:=s2.toks + ([]:List (Str×Value)).length }:=I.inC hkind hcl1 hcl2 hcell hcap hCle2 f2 hfo hns₁ old
  have okX:=I₁.ok
  have fpX:∀ {H':Hp} {pn:List (Addr×Obj)},(∀ b∈fp,H' b = none)→(∀ p∈pn,p.1 = D)→∀ b∈fp,FpOk X' pn H' b:=fun {H' pn} hn hp b hb=>by
    obtain ⟨o,e⟩:=hfo b hb
    refine ⟨hn b hb,(okX.exf b hb).1,okX.exfs b hb,.inl hb,(okX.exf b hb).2,fun p hq z=>?_⟩
    have hq:p∈pn:=by
      rcases List.mem_append.mp hq with q | q
      · exact absurd (show p∈([]:List (Addr×Obj)) from q) (by simp)
      · exact q
    rw [hp p hq] at z
    exact absurd (Nat.lt_of_lt_of_le (Heap.lt_size e) hDle) (by rw [← z];exact Nat.lt_irrefl _)
  have pinD:∀ {σ':St} {H':Hp} {s':Shared} {oD:Obj},Inv X' [] σ' H' s'→s'.heap.get? D = some oD→H' D = none→(∀ v,oD.data≠.cell v)→Inv X' [(D,oD)] σ' H' s':=fun {σ' H' s' oD} J e n d =>
    J.pins_of fun p hp=>by
      have:p = (D,oD):=by simpa using hp
      subst this
      refine ⟨e,n,hDC,fun z=>?_,d⟩
      obtain ⟨_,o,ho,_⟩:=okX.funs.mem z
      exact notfp (Nat.le_refl D) ho hDle
  have loop:∀ s₃:Shared,s₃ = { s2 with heap:=h₁,toks:=s2.toks + ([]:List (Str×Value)).length } →
      codeAny (model X.prog X.w) X.A (.compLoop (.ListComp elt [⟨tg,iter,ifs,0⟩] sc pos) 0 (.ref it) (.ref D) (compEnvC sc cl HH.objs.size X.env)) (RR (.ref D) HH.objs.size) s₃:=by
    rintro s₃ rfl
    refine comp_loop (fun n s'=>∃ i ys H' its nn,Inv X' [] (σC own.length cap σ) H' s'∧tn i s'.heap∧(∀ b∈fp,H' b = none)∧s'.heap.get? D = some { cls:=.type "list",data:=.seq (List.toArray its) nn }∧Vals ys its∧H' D = none∧W i n ys H') ?_ m0 ?_
    · rintro n s3 ⟨i,ys,H3,its,nn,I3,st3,fr3,hl3,hv3,hD3,w3⟩
      obtain ⟨hlen,tw⟩:=turn i n ys H3 w3
      have I3':=pinD I3 hl3 hD3 (fun v z=>by cases z)
      have onlyD:∀ p∈[(D,({ cls:=.type "list",data:=.seq (List.toArray its) nn }:Obj))],p.1 = D:=fun p hp=>by simp at hp;rw [hp]
      rcases tw with ⟨stop,qn⟩ | ⟨go,step⟩
      · refine thn (T.done X' rfl rfl rfl hc i _ s3 _ H3 (fun _ _=>False) I3' (fpX fr3 onlyD) st3 stop) fun r s4 ⟨hr,I4⟩=>?_
        subst hr
        have hl4:=(I4.pin (D,_) (List.mem_append_right _ List.mem_cons_self)).1
        have I5:=I.outC (fp:=fp) f2 hDle I4 hl4 hv3 (Nat.le_of_lt hlen) hD3
        obtain ⟨m4,hn4,_⟩:=I4.loc
        refine hRR D HH.objs.size _ s4 I5 ⟨m4,hn4⟩ ?_ (by rw [upd_same];simp) (qn D hD3)
        refine I.fpOk hCle2 ?_
        rw [upd_ne (Ne.symm hDC)]
        exact I4.free
      · refine thn (T.item X' rfl rfl rfl hc i _ s3 _ H3 (fun _ _=>False) I3' (fpX fr3 onlyD) st3 go) fun r s4 ⟨u,hr,h4⟩=>?_
        subst hr
        refine thn h4 fun _ s5 ⟨x,H5,I5,r5,y5,st5,fr5⟩=>?_
        have I5':=I5.pinned (fpX fr5 onlyD) (T.obj _ _ st5)
        refine thn (hg _ _ _ _ _ _ s5 _ H5 x u _ I5' r5 (step x H5 y5)) fun _ s6 ⟨σ6,H6,I6,q6⟩=>?_
        refine thn (ht _ _ _ _ _ _ s6 σ6 H6 _ I6 q6) fun b s7 ⟨H7,I7,q7⟩=>?_
        have back:∀ {σ8:St} {H8:Hp} {s8:Shared},Inv X' ([(D,({ cls:=.type "list",data:=.seq (List.toArray its) nn }:Obj))] ++ pinsAt fp s5.heap) σ8 H8 s8 →
            Inv X' [] (σC own.length cap σ) H8 s8∧tn (i + 1) s8.heap∧(∀ b∈fp,H8 b = none)∧s8.heap.get? D = some { cls:=.type "list",data:=.seq (List.toArray its) nn }∧H8 D = none:=fun {σ8 H8 s8} I8=>by
          have pD:=I8.pin (D,_) (List.mem_append_right _ (List.mem_append_left _ List.mem_cons_self))
          refine ⟨?_,T.keep _ _ _ st5 fun b hb o e=>(I8.pin (b,o) (List.mem_append_right _ (List.mem_append_right _ (mem_pinsAt hb e)))).1,fun b hb=>?_,pD.1,pD.2.1⟩
          · have I8':Inv X' [] σ8 H8 s8:=I8.pins_of fun p hp=>absurd hp (by simp)
            refine ⟨I8'.ok,I8'.os,I8'.bare,I8'.base,?_,I8'.cell,I8'.free,I8'.freeC,I8'.pin,I8'.hok,I₁.len⟩
            obtain ⟨m8,hn8,_⟩:=I8'.loc
            obtain ⟨m1,hn1,hl1⟩:=I₁.loc
            refine ⟨m8,hn8,fun i x v e1 e2 e3=>?_⟩
            obtain ⟨u,ru,l⟩:=hl1 i x v e1 e2 e3
            refine ⟨u,ru,?_⟩
            rcases l with ⟨k,e⟩ | ⟨k,c,ec,oc,hoc,hd⟩
            · exfalso
              have e1:(NC X own cap)[i]? = some x:=e1
              unfold σC at e2
              unfold NC at e1
              by_cases hi:i < own.length
              · rw [List.getElem?_append_left (by simpa using hi),List.getElem?_replicate] at e2
                split at e2 <;> cases e2
              · rw [List.getElem?_append_right (by simpa using hi),List.getElem?_map] at e1
                cases ej:cap[i - own.length]? with
                | none=>rw [ej] at e1;cases e1
                | some j =>
                  rw [ej] at e1
                  simp only [Option.map_some,Option.some.injEq] at e1
                  obtain ⟨y,hy,hfr,hk⟩:=hcap.mem (List.mem_of_getElem? ej)
                  have exy:x = y:=by rw [← e1,List.getD_eq_getElem?_getD,hy];rfl
                  subst exy
                  have k:(relabel sc X.env).names.lookup x = some .local:=k
                  rcases relabel_free (env:=X.env) hfr with q | q <;> (rw [q] at k;cases k)
            · refine .inr ⟨k,c,ec,?_⟩
              have ec2:=hcl1 x c ec
              have c0:∃ v,s2.heap.IsCell c v:=I.cell x c ec2
              obtain ⟨v0,o0,ho0,hd0⟩:=c0
              have:=old c o0 ho0
              rw [this] at hoc
              cases hoc
              have nfp:c∉fp:=fun z=>(f2 c z).2.2.2.2.1 x c ec2 rfl
              obtain ⟨sl,q⟩:=(show Un (frs X.stack) fp H2 H8 s2.heap s8.heap from I8'.base).any ho0 (I.freeC x c ec2) nfp
              exact ⟨_,q,hd⟩
          · obtain ⟨o,e,d⟩:=T.obj _ _ st5 b hb
            exact (I8.pin (b,o) (List.mem_append_right _ (List.mem_append_right _ (mem_pinsAt hb e)))).2.1
        cases b with
        | false =>
          rw [if_neg Bool.false_ne_true]
          rw [if_neg Bool.false_ne_true] at q7
          obtain ⟨m',hm,w7⟩:=q7
          obtain ⟨J1,J2,J3,J4,J5⟩:=back I7
          exact ⟨m',hm,i + 1,ys,H7,its,nn,J1,J2,J3,J4,hv3,J5,w7⟩
        | true =>
          rw [if_pos rfl]
          rw [if_pos rfl] at q7
          refine thn (he _ _ _ _ _ _ s7 σ6 H7 _ I7 q7) fun y s8 ⟨yv,H8,I8,r8,m',hm,w8⟩=>?_
          obtain ⟨J1,J2,J3,J4,J5⟩:=back I8
          refine wpAny_list_append_plain (hsz:=by rw [List.size_toArray,← hv3.length];exact Nat.le_of_lt hlen) ⟨nn,J4⟩ fun h₅ hl₅ hs₅=>?_
          obtain ⟨n5,e5⟩:=hl₅
          have kk:∀ b o,b≠D→s8.heap.get? b = some o→h₅.get? b = some o:=fun b o hb e=>hs₅.extBut b o hb e
          refine ⟨m',hm,i + 1,ys ++ [yv],H8,its ++ [y],n5,?_,?_,J3,by rw [e5];simp,hv3.append (.cons r8 .nil),J5,w8⟩
          · exact J1.turned (t':=s8.toks) kk J5 hDC (.inr hDle) (fun x c e z=>by
              obtain ⟨v0,o0,ho0,hd0⟩:=I.cell x c (hcl1 x c e)
              exact notfp (Nat.le_of_eq z.symm) ho0 hDle) (fun p hp=>absurd (show p∈([]:List (Addr×Obj)) from hp) (by simp))
          · refine T.keep _ _ _ J2 fun b hb o e=>kk b o (fun z=>?_) e
            obtain ⟨o',e'⟩:=hfo b hb
            exact notfp (Nat.le_of_eq z.symm) e' hDle
    · exact ⟨0,[],H2,[],_,I₁,hst₁,fun b hb=>(f2 b hb).1,hacc.choose_spec,.nil,I.hok.fresh hDle,w0⟩
  subst hD
  exact codeAny_compStart_list (loop _ rfl) (T.self _ 0 _ _ _ hst₁ (loop _ rfl))
end
end L2
namespace L2
open PySem PySem.Spec PyProof.Rows
section
variable {X:Cx} {sc:Scope} {own:List Str} {cap:List Nat}
theorem free_cells {pins:List (Addr×Obj)} {σ:St} {H:Hp} {s:Shared} (I:Inv X pins σ H s) (hfr:∀ y∈sc.names,y.2 = .free→X.env.kindOf y.1 = some .cell∨X.env.kindOf y.1 = some .free) :
    ∃ cl:List (Str×Addr),closureFor sc X.env = pure cl∧(∀ x c,cl.lookup x = some c→X.env.cells.lookup x = some c)∧(∀ x,(x,NameKind.free)∈sc.names→∃ c,cl.lookup x = some c) :=
  closure_ok fun x hx=>I.ok.has x (hfr _ hx rfl)
theorem pe_comp {tg elt iter:Expr} {ifs:List Expr} {pos:Pos} {wi:TI} {g:TG} {tt:TT} {te:TE} (own:List Str) (cap:List Nat) (hc:X.calm = true) (hi:PI X tg iter wi)
    (hg:∀ cl C fp s H,PG (X.inC sc cl C (NC X own cap) fp s H) tg g) (ht:∀ cl C fp s H,PIf (X.inC sc cl C (NC X own cap) fp s H) ifs tt) (he:∀ cl C fp s H,PE (X.inC sc cl C (NC X own cap) fp s H) elt te)
    (hcap:Caps X sc cap) (hkind:sc.kind = .function:=by rfl) (hcell:∀ y∈sc.names,y.2≠.cell:=by decide +kernel)
    (hfr:∀ y∈sc.names,y.2 = .free→X.env.kindOf y.1 = some .cell∨X.env.kindOf y.1 = some .free:=by decide +kernel)
    (hnames:∀ x∈sc.names,x.2 = .local→sc.names.lookup x.1 = some .local:=by decide +kernel) (hs:∀ x,foldedSetIterable iter X.env x = pure x:=by intro _;rfl) :
    PE X (.ListComp elt [⟨tg,iter,ifs,0⟩] sc pos) (tComp own.length cap wi g tt te):=by
  intro pins s σ H Q I h
  obtain ⟨cl,hclos,hcl1,hcl2⟩:=free_cells I hfr
  rw [eval_ListComp]
  refine wpAny_comprehension_free (use:=none) rfl hs hclos hkind hnames (thn (hi pins s σ H _ I h) fun v s1 h1=>thn h1 fun itv s2 h2=>?_)
  obtain ⟨it,fp,tn,J,H2,e,I2,T,st2,f2,hw⟩:=h2
  subst e
  refine comp_core (RR:=fun acc C=>compPost (model X.prog X.w) X.A X.xe none (EP X pins σ Q) acc C) (Post:=Q) hc I2 T st2 f2 hkind hcl1 hcl2 hcell hcap hg ht he hw ?_
  intro D C H' s' I' hm fC hD q
  obtain ⟨m,hn⟩:=hm
  refine ⟨m,hn,fun h' hs'=>?_⟩
  obtain ⟨f0,f1,f2',f3,f4,f5⟩:=fC
  refine ⟨.ref D,H',?_,rfl,q⟩
  exact I'.turned (t':=s'.toks) (fun b o hb e=>hs'.extBut b o hb e) f0 f1 f3 f4 f5
theorem ps_setC {i:Nat} {x:Str} {tg elt iter:Expr} {ifs:List Expr} {pos pos' spos:Pos} {wi:TI} {g:TG} {tt:TT} {te:TE} (own:List Str) (cap:List Nat) (hc:X.calm = true) (hN:X.N.Nodup) (hix:X.N[i]? = some x) (hx:X.env.scope.names.lookup x = some .local) (hi:PI X tg iter wi)
    (hg:∀ cl C fp s H,PG (X.inC sc cl C (NC X own cap) fp s H) tg g) (ht:∀ cl C fp s H,PIf (X.inC sc cl C (NC X own cap) fp s H) ifs tt) (he:∀ cl C fp s H,PE (X.inC sc cl C (NC X own cap) fp s H) elt te)
    (hcap:Caps X sc cap) (hsw:swapsWith (.ListComp elt [⟨tg,iter,ifs,0⟩] sc pos) (some (.Name x pos')) spos.line X.env = pure true:=by rfl) (hkind:sc.kind = .function:=by rfl) (hcell:∀ y∈sc.names,y.2≠.cell:=by decide +kernel)
    (hfr:∀ y∈sc.names,y.2 = .free→X.env.kindOf y.1 = some .cell∨X.env.kindOf y.1 = some .free:=by decide +kernel)
    (hnames:∀ x∈sc.names,x.2 = .local→sc.names.lookup x.1 = some .local:=by decide +kernel) (hs:∀ x,foldedSetIterable iter X.env x = pure x:=by intro _;rfl) :
    PS X (.Assign [.Name x pos'] (.ListComp elt [⟨tg,iter,ifs,0⟩] sc pos) spos) (tAsg (tComp own.length cap wi g tt te) (gName i)):=by
  intro pins s σ H D I h
  obtain ⟨cl,hclos,hcl1,hcl2⟩:=free_cells I hfr
  rw [exec_Assign_Name_used _ _ _ _ hsw]
  refine wpAny_bind (wpAny_standAt (wpAny_bind ?_))
  show wpAny _ X.A (do let _ ← comprehension (.ListComp elt [⟨tg,iter,ifs,0⟩] sc pos) sc X.env _ (newList []) false (eval iter X.env) (some (assign (.Name x pos') X.env))) _ _ s
  refine wpAny_bind (wpAny_mono (wpAny_comprehension_free (use:=some (assign (.Name x pos') X.env)) (Q:=fun _ s'=>SP X pins D .next s') rfl hs hclos hkind hnames
    (thn (hi pins s σ H _ I h) fun v s1 h1=>thn h1 fun itv s2 h2=>?_)) (fun _ s' hq=>wpAny_pure (wpAny_pure hq)) fun _ _ e=>e)
  obtain ⟨it,fp,tn,J,H2,e,I2,T,st2,f2,hw⟩:=h2
  subst e
  refine comp_core (RR:=fun acc C=>compPost (model X.prog X.w) X.A X.xe (some (assign (.Name x pos') X.env)) (fun _ s'=>SP X pins D .next s') acc C) (Post:=fun y H1=>D.nx (σ.set i (some y)) H1) hc I2 T st2 f2 hkind hcl1 hcl2 hcell hcap hg ht he hw ?_
  intro Da C H' s' I' hm fC hD q
  obtain ⟨m,hn⟩:=hm
  obtain ⟨f0,f1,f2',f3,f4,f5⟩:=fC
  refine wpAny_assign_Name (store_ok2 I' hN hix (.inl hx) (v:=.ref Da) rfl (fun s'' I'' hsb=>?_) (.inr hx))
  obtain ⟨a,hsb,ha⟩:=hsb
  have ha:C≠a:=by
    rcases ha with z | z
    · rw [z];exact f1
    · exact (f4 x a z).symm
  refine ⟨m,hn.sameBut hsb ha,fun h' hs'=>?_⟩
  exact ⟨_,H',I''.turned (t':=s''.toks) (fun b o hb e=>hs'.extBut b o hb e) f0 f1 f3 f4 f5,q⟩
end
end L2
namespace L2
open PySem PySem.Spec PyProof.Rows
inductive D where
  | non | bl (b:Bool) | int (i:Int) | str (x:Str) | lst (ds:List D) | tup (ds:List D) | dct (es:List (Key×D))
mutual
inductive Rep (K:PySem.W.Frag) (H:Hp):V→D→Prop
  | non:Rep K H .non .non
  | bl (b:Bool):Rep K H (.bl b) (.bl b)
  | int (i:Int):Rep K H (.int i) (.int i)
  | str (x:Str):Rep K H (.str x) (.str x)
  | lst {a:Addr} {xs:List V} {ds:List D}:SqL K H a xs→Reps K H xs ds→Rep K H (.ref a) (.lst ds)
  | tup {a:Addr} {xs:List V} {ds:List D}:SqT K H a xs→Reps K H xs ds→Rep K H (.ref a) (.tup ds)
  | dct {a:Addr} {kvs:List (Key×V)} {es:List (Key×D)}:Rd H a (.dK kvs)→RepD K H kvs es→Rep K H (.ref a) (.dct es)
inductive Reps (K:PySem.W.Frag) (H:Hp):List V→List D→Prop
  | nil:Reps K H [] []
  | cons {x:V} {d:D} {xs:List V} {ds:List D}:Rep K H x d→Reps K H xs ds→Reps K H (x :: xs) (d :: ds)
inductive RepD (K:PySem.W.Frag) (H:Hp):List (Key×V)→List (Key×D)→Prop
  | nil:RepD K H [] []
  | cons {k:Key} {x:V} {d:D} {xs:List (Key×V)} {ds:List (Key×D)}:Rep K H x d→RepD K H xs ds→RepD K H ((k,x) :: xs) ((k,d) :: ds)
end
structure Sm (H H':Hp):Prop where
  lst:∀ a xs,Rd H a (.lst xs)→Rd H' a (.lst xs)
  tup:∀ a xs,Rd H a (.tup xs)→Rd H' a (.tup xs)
  dK:∀ a kvs,Rd H a (.dK kvs)→Rd H' a (.dK kvs)
theorem Same.sm {H H':Hp} (e:Same H H'):Sm H H' :=
  ⟨fun a xs h=>h.elim (fun q=>.inl (e _ _ q)) fun ⟨o,q⟩=>.inr ⟨o,e _ _ q⟩,fun a xs h=>h.elim (fun q=>.inl (e _ _ q)) fun ⟨o,q⟩=>.inr ⟨o,e _ _ q⟩,fun a xs h=>h.elim (fun q=>.inl (e _ _ q)) fun ⟨o,q⟩=>.inr ⟨o,e _ _ q⟩⟩
theorem Same.updN {H:Hp} {p:Addr} {o:HO} (h:H p = none):Same H (upd H p o):=fun b u e=>by rw [upd_ne (ne_of_none e h)];exact e
theorem Same.upd {H H':Hp} {p:Addr} {o:HO} (s:Same H H') (h:H p = none):Same H (upd H' p o):=fun b u e=>by rw [upd_ne (ne_of_none e h)];exact s b u e
section
variable {K:PySem.W.Frag} {H H':Hp}
theorem Sm.sqL (e:Sm H H') {a:Addr} {xs:List V} (h:SqL K H a xs):SqL K H' a xs:=by
  rcases h with h | h
  · exact .inl (e.lst a xs h)
  · exact .inr h
theorem Sm.sqT (e:Sm H H') {a:Addr} {xs:List V} (h:SqT K H a xs):SqT K H' a xs:=by
  rcases h with h | h
  · exact .inl (e.tup a xs h)
  · exact .inr h
mutual
theorem Rep.sm (e:Sm H H'):∀ {x:V} {d:D},Rep K H x d→Rep K H' x d
  | _,_,.non=>.non
  | _,_,.bl b=>.bl b
  | _,_,.int i=>.int i
  | _,_,.str x=>.str x
  | _,_,.lst h r=>.lst (e.sqL h) (Reps.sm e r)
  | _,_,.tup h r=>.tup (e.sqT h) (Reps.sm e r)
  | _,_,.dct h r=>.dct (e.dK _ _ h) (RepD.sm e r)
theorem Reps.sm (e:Sm H H'):∀ {x:List V} {d:List D},Reps K H x d→Reps K H' x d
  | _,_,.nil=>.nil
  | _,_,.cons h r=>.cons (Rep.sm e h) (Reps.sm e r)
theorem RepD.sm (e:Sm H H'):∀ {x:List (Key×V)} {d:List (Key×D)},RepD K H x d→RepD K H' x d
  | _,_,.nil=>.nil
  | _,_,.cons h r=>.cons (Rep.sm e h) (RepD.sm e r)
end
theorem Reps.length {xs:List V} {ds:List D}:Reps K H xs ds→xs.length = ds.length
  | .nil=>rfl
  | .cons _ r=>by rw [List.length_cons,List.length_cons,r.length]
theorem RepD.length {xs:List (Key×V)} {ds:List (Key×D)}:RepD K H xs ds→xs.length = ds.length
  | .nil=>rfl
  | .cons _ r=>by rw [List.length_cons,List.length_cons,r.length]
theorem Reps.get:∀ {xs:List V} {ds:List D} {i:Nat} {d:D},Reps K H xs ds→ds[i]? = some d→∃ x,xs[i]? = some x∧Rep K H x d
  | _,_,_,_,.nil,e=>by simp at e
  | _,_,0,_,.cons h _,e=>by simp at e;subst e;exact ⟨_,rfl,h⟩
  | _,_,i + 1,d,.cons _ r,e=>by
    obtain ⟨x,h1,h2⟩:=Reps.get (i:=i) (d:=d) r (by simpa using e)
    exact ⟨x,by simpa using h1,h2⟩
theorem Reps.get':∀ {xs:List V} {ds:List D} {i:Nat} {x:V},Reps K H xs ds→xs[i]? = some x→∃ d,ds[i]? = some d∧Rep K H x d
  | _,_,_,_,.nil,e=>by simp at e
  | _,_,0,_,.cons h _,e=>by simp at e;subst e;exact ⟨_,rfl,h⟩
  | _,_,i + 1,d,.cons _ r,e=>by
    obtain ⟨x,h1,h2⟩:=Reps.get' (i:=i) (x:=d) r (by simpa using e)
    exact ⟨x,by simpa using h1,h2⟩
theorem Reps.append:∀ {xs ys:List V} {ds es:List D},Reps K H xs ds→Reps K H ys es→Reps K H (xs ++ ys) (ds ++ es)
  | _,_,_,_,.nil,s=>s
  | _,_,_,_,.cons r t,s=>.cons r (Reps.append t s)
theorem Reps.strs {ss:List Str}:Reps K H (ss.map V.str) (ss.map D.str):=by
  induction ss with
  | nil=>exact .nil
  | cons x r ih=>exact .cons (.str x) ih
theorem RepD.get:∀ {xs:List (Key×V)} {ds:List (Key×D)} {k:Key} ,RepD K H xs ds →
    (∀ d,(ds.find? fun e=>decide (e.1 = k)).map (·.2) = some d→∃ x,valV xs k = some x∧Rep K H x d)∧((ds.find? fun e=>decide (e.1 = k)) = none→valV xs k = none)
  | _,_,_,.nil=>⟨fun d e=>(by cases e),fun _=>rfl⟩
  | _,_,k,.cons (k:=k0) h r=>by
    obtain ⟨i1,i2⟩:=RepD.get (k:=k) r
    by_cases e:k0 = k
    · subst e
      refine ⟨fun d ed=>?_,fun ed=>?_⟩
      · simp at ed
        subst ed
        exact ⟨_,by simp [valV],h⟩
      · simp at ed
    · refine ⟨fun d ed=>?_,fun ed=>?_⟩
      · rw [List.find?_cons,decide_eq_false e] at ed
        obtain ⟨x,h1,h2⟩:=i1 d ed
        exact ⟨x,by unfold valV;rw [List.find?_cons,decide_eq_false e];exact h1,h2⟩
      · rw [List.find?_cons,decide_eq_false e] at ed
        unfold valV;rw [List.find?_cons,decide_eq_false e];exact i2 ed
end
end L2
namespace L2
open PySem PySem.Spec PyProof.Rows PySem.SeqAt
def EqIn (P:Program) (w:World) (A:Around) (s:Shared) (y x:Value) (b:Bool):Prop :=
  ∀ (E:Value→Shared→Prop) (Q:Bool→Shared→Prop),Q b s→wpAny (model P w) A (eqBool y x) Q E s
theorem EqIn.of {P:Program} {w:World} {A:Around} {s:Shared} {y x:Value} {b:Bool} (h:EqAt A s y x b):EqIn P w A s y x b:=fun E Q q=>h P w E Q q
mutual
def D.flat:D→Bool
  | .dct _=>false
  | .lst ds=>D.flats ds
  | .tup ds=>D.flats ds
  | _=>true
def D.flats:List D→Bool
  | []=>true
  | d :: r=>d.flat && D.flats r
end
mutual
def D.dep:D→Nat
  | .dct es=>D.depD es + 1
  | .lst ds=>D.deps ds + 1
  | .tup ds=>D.deps ds + 1
  | _=>0
def D.deps:List D→Nat
  | []=>0
  | d :: r=>max d.dep (D.deps r)
def D.depD:List (Key×D)→Nat
  | []=>0
  | (_,d) :: r=>max d.dep (D.depD r)
end
theorem D.flats_get:∀ {ds:List D} {i:Nat} {d:D},D.flats ds = true→ds[i]? = some d→d.flat = true
  | [],_,_,_,e=>by simp at e
  | d :: r,0,_,h,e=>by simp at e;subst e;simp [D.flats] at h;exact h.1
  | _ :: r,i + 1,_,h,e=>by simp [D.flats] at h;exact D.flats_get h.2 (by simpa using e)
theorem D.deps_get:∀ {ds:List D} {i:Nat} {d:D},ds[i]? = some d→d.dep≤D.deps ds
  | [],_,_,e=>by simp at e
  | d :: r,0,_,e=>by simp at e;subst e;simp only [D.deps];omega
  | _ :: r,i + 1,d,e=>by
    have:=D.deps_get (ds:=r) (i:=i) (d:=d) (by simpa using e)
    simp only [D.deps]
    omega
section
variable {X:Cx} {pins:List (Addr×Obj)} {σ:St} {H:Hp} {s:Shared}
theorem all_range_true (n:Nat):(List.range n).all (fun _=>true) = true:=by simp
theorem RelV.eqAt_flat {x:V} {u v:Value} (A:Around) (r:RelV x u) (q:RelV x v) (f:flatV x = true):EqAt A s u v true:=by
  have h:=eqAt_V (A:=A) (s:=s) r q f f
  have e:eqV x x = true:=by cases x <;> first | exact absurd (show false = true from f) Bool.false_ne_true | rfl | (simp [eqV];done)
  rw [e] at h
  exact h
theorem rep_eqAt (I:Inv X pins σ H s):∀ (d:D) {x y:V} {u v:Value} {A:Around},d.flat = true→A.units + d.dep < cLine→Rep X.K H x d→Rep X.K H y d→RelV x u→RelV y v→EqAt A s u v true∧(∀ a b,u = .ref a→v = .ref b→RcAt A s u v true∧RcNeAt A s u v false)
  | .non,x,y,u,v,A,_,_,r1,r2,e1,e2=>by cases r1;cases r2;exact ⟨RelV.eqAt_flat A e1 e2 rfl,fun a b h _=>by cases e1;cases h⟩
  | .bl _,x,y,u,v,A,_,_,r1,r2,e1,e2=>by cases r1;cases r2;exact ⟨RelV.eqAt_flat A e1 e2 rfl,fun a b h _=>by cases e1;cases h⟩
  | .int _,x,y,u,v,A,_,_,r1,r2,e1,e2=>by cases r1;cases r2;exact ⟨RelV.eqAt_flat A e1 e2 rfl,fun a b h _=>by obtain ⟨t,rfl⟩:=e1;cases h⟩
  | .str _,x,y,u,v,A,_,_,r1,r2,e1,e2=>by cases r1;cases r2;exact ⟨RelV.eqAt_flat A e1 e2 rfl,fun a b h _=>by obtain ⟨t,rfl⟩:=e1;cases h⟩
  | .dct _,_,_,_,_,_,f,_,_,_,_,_=>by cases f
  | .lst ds,x,y,u,v,A,f,hu,r1,r2,e1,e2=>by
    cases r1 with
    | lst q1 p1 =>
    cases r2 with
    | lst q2 p2 =>
    cases e1;cases e2
    rename_i a1 xs1 a2 xs2
    obtain ⟨i1,v1,l1,_⟩:=I.list q1
    obtain ⟨i2,v2,l2,_⟩:=I.list q2
    have n1:=p1.length;have n2:=p2.length;have m1:=v1.length;have m2:=v2.length
    have hd:A.units + (D.deps ds + 1) < cLine:=hu
    have ie:∀ j (h1:j < i1.toArray.size) (h2:j < i2.toArray.size),EqAt A.in1 s i1.toArray[j] i2.toArray[j] true:=fun j h1 h2=>by
      have h1':j < i1.length:=by simpa using h1
      have h2':j < i2.length:=by simpa using h2
      have hj:j < ds.length:=by omega
      have eds:ds[j]? = some ds[j]:=List.getElem?_eq_getElem hj
      obtain ⟨y1,g1,w1⟩:=p1.get eds
      obtain ⟨y2,g2,w2⟩:=p2.get eds
      obtain ⟨u1,k1,z1⟩:=v1.get g1
      obtain ⟨u2,k2,z2⟩:=v2.get g2
      have c1:i1.toArray[j] = u1:=by simpa [List.getElem?_eq_getElem h1'] using k1
      have c2:i2.toArray[j] = u2:=by simpa [List.getElem?_eq_getElem h2'] using k2
      rw [c1,c2]
      have hdep:=D.deps_get eds
      exact (rep_eqAt I ds[j] (A:=A.in1) (D.flats_get f eds) (by show A.units + 1 + _ < cLine;omega) w1 w2 z1 z2).1
    have rc:=RcAt.lists (A:=A) (e:=fun _=>true) l1.isList l2.isList (by simp;omega) (by omega) ie
    have rn:=RcNeAt.lists (A:=A) (e:=fun _=>true) l1.isList l2.isList (by simp;omega) (by omega) ie
    rw [all_range_true] at rc rn
    refine ⟨?_,fun _ _ _ _=>⟨rc,rn⟩⟩
    by_cases e:a1 = a2
    · subst e;exact EqAt.same _
    · exact EqAt.of_refs e rc
  | .tup ds,x,y,u,v,A,f,hu,r1,r2,e1,e2=>by
    cases r1 with
    | tup q1 p1 =>
    cases r2 with
    | tup q2 p2 =>
    cases e1;cases e2
    rename_i a1 xs1 a2 xs2
    obtain ⟨i1,v1,l1,_⟩:=I.tuple q1
    obtain ⟨i2,v2,l2,_⟩:=I.tuple q2
    have n1:=p1.length;have n2:=p2.length;have m1:=v1.length;have m2:=v2.length
    have hd:A.units + (D.deps ds + 1) < cLine:=hu
    have ie:∀ j (h1:j < i1.toArray.size) (h2:j < i2.toArray.size),EqAt A.in1 s i1.toArray[j] i2.toArray[j] true:=fun j h1 h2=>by
      have h1':j < i1.length:=by simpa using h1
      have h2':j < i2.length:=by simpa using h2
      have hj:j < ds.length:=by omega
      have eds:ds[j]? = some ds[j]:=List.getElem?_eq_getElem hj
      obtain ⟨y1,g1,w1⟩:=p1.get eds
      obtain ⟨y2,g2,w2⟩:=p2.get eds
      obtain ⟨u1,k1,z1⟩:=v1.get g1
      obtain ⟨u2,k2,z2⟩:=v2.get g2
      have c1:i1.toArray[j] = u1:=by simpa [List.getElem?_eq_getElem h1'] using k1
      have c2:i2.toArray[j] = u2:=by simpa [List.getElem?_eq_getElem h2'] using k2
      rw [c1,c2]
      have hdep:=D.deps_get eds
      exact (rep_eqAt I ds[j] (A:=A.in1) (D.flats_get f eds) (by show A.units + 1 + _ < cLine;omega) w1 w2 z1 z2).1
    have t1:s.heap.IsTuple a1 i1.toArray:=l1
    have t2:s.heap.IsTuple a2 i2.toArray:=l2
    have rc:=RcAt.tuples (A:=A) (e:=fun _=>true) t1 t2 (by omega) ie
    have rn:=RcNeAt.tuples (A:=A) (e:=fun _=>true) t1 t2 (by omega) ie
    have sz:(i1.toArray.size == i2.toArray.size) = true:=by simp;omega
    rw [all_range_true,sz] at rc rn
    refine ⟨?_,fun _ _ _ _=>⟨rc,rn⟩⟩
    by_cases e:a1 = a2
    · subst e;exact EqAt.same _
    · exact EqAt.of_refs e rc
termination_by d=>sizeOf d
decreasing_by
  all_goals simp_wf
  all_goals (have:=List.sizeOf_lt_of_mem (List.getElem_mem hj);omega)
end
end L2
namespace L2
open PySem PySem.Spec PyProof.Rows PySem.SeqAt
section
variable {P:Program} {w:World} {κ:Type} [DecidableEq κ] {kd:KeyKind P w κ} {A:Around} {E:Value→Shared→Prop} {s:Shared}
def Likes (P:Program) (w:World) (A:Around) (s:Shared) (qs ps:List (κ×Value)):Prop:=∀ k v,(k,v)∈ps→∃ y,valueAt qs k = some y∧EqIn P w A s v y true
theorem pairs_alike {nm:String} {p q:Addr} {ps qs:List (κ×Value)} {Q:Bool→Shared→Prop} (np:(p == sysModules) = false) (nq:(q == sysModules) = false) (dp:s.heap.DictOf kd p ps) (dq:s.heap.DictOf kd q qs)
    (hl:ps.length = qs.length) (hk:Likes P w A s qs ps) (h:Q true s):wpAny (model P w) A (Builtin.Dict.samePairs nm p q) Q E s:=by
  obtain ⟨o1,e1,n1,g1,_,d1,k1,r1,_⟩:=dp
  obtain ⟨o2,e2,n2,g2,_,d2,k2,r2,_⟩:=dq
  have l1:ps.length = e1.size:=(r1.length).symm.trans Array.length_toList
  have l2:qs.length = e2.size:=(r2.length).symm.trans Array.length_toList
  have look:∀ k,findBy kd.is e2 k = valueAt qs k:=fun k=>by
    have:=r2.find k
    rw [← this]
    clear this l2 r2 k2 d2 g2
    obtain ⟨l⟩:=e2
    simp [findBy]
  have sz:e1.size = e2.size:=by omega
  unfold Builtin.Dict.samePairs Builtin.Dict.showsAll
  have np':¬ (p == sysModules) = true:=by rw [np];decide
  have nq':¬ (q == sysModules) = true:=by rw [nq];decide
  rw [if_neg np',if_neg nq']
  refine wpAny_bind (wpAny_pure (wpAny_bind (wpAny_pure (wpAny_bind (wpAny_dictEntries g1 d1 ?_)))))
  dsimp only
  refine wpAny_bind (wpAny_dictEntries g2 d2 ?_)
  rw [if_neg (by rw [sz];simp)]
  refine wpAny_bind (wpAny_dictEpoch g1 d1 (wpAny_bind ?_))
  rw [Std.Legacy.Range.forIn_eq_forIn_range']
  simp only [Std.Legacy.Range.size,Nat.sub_zero,Nat.add_sub_cancel,Nat.div_one]
  refine wpAny_forIn_list _ (fun rest t s'=>s' = s∧t = (none,())∧∃ i,rest = List.range' i (e1.size - i)∧i≤e1.size) _ ?_ ?_ _ _ ⟨rfl,rfl,0,by simp,Nat.zero_le _⟩
  · rintro x rest t s' ⟨rfl,rfl,i,hr,hi⟩
    have lt:i < e1.size:=Nat.lt_of_not_le fun z=>by rw [Nat.sub_eq_zero_of_le z] at hr;simp at hr
    have es:e1.size - i = (e1.size - (i + 1)) + 1:=by omega
    rw [es,List.range'_succ] at hr
    injection hr with hx hrest
    subst hx
    refine wpAny_bind (wpAny_dictEntries g1 d1 ?_)
    rw [Array.getElem?_eq_getElem lt]
    have lt':x < ps.length:=by omega
    have gp:ps[x]? = some ps[x]:=List.getElem?_eq_getElem lt'
    obtain ⟨hkey,hval⟩:=r1.get? (i:=x) (e:=e1[x]) (k:=ps[x].1) (v:=ps[x].2) (by rw [Array.getElem?_toList];exact Array.getElem?_eq_getElem lt) gp
    obtain ⟨k',hk',hh⟩:=k1 e1[x] (Array.getElem_mem lt)
    have ek:k' = ps[x].1:=kd.inj _ _ _ hk' hkey
    subst ek
    obtain ⟨y,hy,heq⟩:=hk ps[x].1 ps[x].2 (List.getElem_mem lt')
    show wpAny _ _ (holding [e1[x].key,e1[x].val] _ >>= _) _ _ _
    rw [hh]
    refine wpAny_bind (wpAny_holding (wpAny_bind (wpAny_dictFind_of hkey g2 d2 k2 ?_)))
    have fy:=(look ps[x].1).trans hy
    rw [findBy_of_findIdx?] at fy
    cases hj:e2.findIdx? fun e=>kd.is ps[x].1 e.key with
    | none=>rw [hj] at fy;cases fy
    | some j =>
      obtain ⟨jl,_,_⟩:=Array.findIdx?_eq_some_iff_getElem.mp hj
      have ev:e2[j].val = y:=by
        rw [hj] at fy
        simpa [Array.getElem?_eq_getElem jl] using fy
      refine wpAny_bind (wpAny_dictEntries g2 d2 ?_)
      rw [Array.getElem?_eq_getElem jl]
      rw [← ev,← hval] at heq
      refine wpAny_holding (heq _ _ ?_)
      show wpAny _ _ (if (!true) = true then _ else _) _ _ _
      rw [if_neg (by decide)]
      refine wpAny_bind (wpAny_dictEpoch g1 d1 ?_)
      rw [if_neg (by simp)]
      exact wpAny_pure ⟨rfl,rfl,x + 1,hrest,lt⟩
  · rintro t s' ⟨rfl,rfl,_⟩
    exact wpAny_pure h
theorem dict_slot2 {f:String} {p q:Addr} {qs:List (κ×Value)} {R:Value×Value→Shared→Prop} (tp:s.TypeIs (.ref p) "dict") (h:R (.ref p,.ref q) s):wpAny (model P w) A (Builtin.Dict.dictSlotArgs f ⟨[.ref p,.ref q],[]⟩) R E s:=by
  unfold Builtin.Dict.dictSlotArgs
  refine wpAny_bind (wpAny_notOrdered_dict tp ?_)
  exact wpAny_pure h
theorem dict_eq_true {p q:Addr} {ps qs:List (κ×Value)} {Q:Value→Shared→Prop} (np:(p == sysModules) = false) (nq:(q == sysModules) = false) (dp:s.heap.DictOf kd p ps) (dq:s.heap.DictOf kd q qs) (hu:A.units < cLine)
    (hl:ps.length = qs.length) (hk:Likes P w A.in1 s qs ps) (h:Q (.bool true) s):wpAny (model P w) A (compareOp .Eq (.ref p) (.ref q)) Q E s:=by
  refine wpAny_richCompare_same_room (op:=.Eq) dp.typeIs dq.typeIs PySem.F.slot_dict_eq (wpAny_call_entry PySem.F.slot_dict_eq dp.typeIs PySem.F.entry_dict_eq ?_ (PySem.F.args_dict_eq_2 _ _)) hu
  show wpAny _ _ (Builtin.Dict.dictSlotArgs "__eq__" ⟨[.ref p,.ref q],[]⟩ >>= _) _ _ s
  refine wpAny_bind (dict_slot2 (qs:=qs) dp.typeIs (wpAny_bind (wpAny_isInstance (T:="dict") dq.typeIs PySem.F.sub_dict_dict ?_)))
  simp only [Bool.not_true,Bool.false_eq_true,if_false]
  exact wpAny_bind (wpAny_pure (wpAny_bind (wpAny_pure (wpAny_bind (pairs_alike np nq dp dq hl hk (wpAny_pure ⟨_,rfl,(fun x=>nomatch x),h⟩))))))
theorem dict_ne_false {p q:Addr} {ps qs:List (κ×Value)} {Q:Value→Shared→Prop} (np:(p == sysModules) = false) (nq:(q == sysModules) = false) (dp:s.heap.DictOf kd p ps) (dq:s.heap.DictOf kd q qs) (hu:A.units < cLine)
    (hl:ps.length = qs.length) (hk:Likes P w A.in1 s qs ps) (h:Q (.bool false) s):wpAny (model P w) A (compareOp .NotEq (.ref p) (.ref q)) Q E s:=by
  refine wpAny_richCompare_same_room (op:=.NotEq) dp.typeIs dq.typeIs PySem.F.slot_dict_ne (wpAny_call_entry PySem.F.slot_dict_ne dp.typeIs PySem.F.entry_dict_ne ?_ (PySem.F.args_dict_ne_2 _ _)) hu
  show wpAny _ _ (Builtin.Dict.dictSlotArgs "__ne__" ⟨[.ref p,.ref q],[]⟩ >>= _) _ _ s
  refine wpAny_bind (dict_slot2 (qs:=qs) dp.typeIs (wpAny_bind (wpAny_isInstance (T:="dict") dq.typeIs PySem.F.sub_dict_dict ?_)))
  simp only [Bool.not_true,Bool.false_eq_true,if_false]
  exact wpAny_bind (wpAny_pure (wpAny_bind (wpAny_pure (wpAny_bind (pairs_alike np nq dp dq hl hk (wpAny_pure ⟨_,rfl,(fun x=>nomatch x),h⟩))))))
end
end L2
namespace L2
open PySem PySem.Spec PyProof.Rows PySem.SeqAt
def lookD (es:List (Key×D)) (k:Key):Option D:=(es.find? fun e=>decide (e.1 = k)).map (·.2)
inductive DEq:D→D→Prop
  | same {d:D}:d.flat = true→DEq d d
  | dct {es fs:List (Key×D)} (f:Key→D):es.length = fs.length→(∀ k d,(k,d)∈es→lookD fs k = some (f k))→(∀ k d,(k,d)∈es→DEq d (f k))→DEq (.dct es) (.dct fs)
theorem D.depD_mem:∀ {es:List (Key×D)} {k:Key} {d:D},(k,d)∈es→d.dep≤D.depD es
  | [],_,_,h=>by simp at h
  | (k0,d0) :: r,k,d,h=>by
    simp only [D.depD]
    rcases List.mem_cons.mp h with e | e
    · cases e;omega
    · have:=D.depD_mem e;omega
section
variable {K:PySem.W.Frag} {X:Cx} {pins:List (Addr×Obj)} {σ:St} {H:Hp} {s:Shared}
theorem RepD.mem:∀ {xs:List (Key×V)} {ds:List (Key×D)} {k:Key} {x:V},RepD K H xs ds→(k,x)∈xs→∃ d,(k,d)∈ds∧Rep K H x d
  | _,_,_,_,.nil,h=>by simp at h
  | _,_,_,_,.cons h0 r,h=>by
    rcases List.mem_cons.mp h with e | e
    · cases e;exact ⟨_,List.mem_cons_self,h0⟩
    · obtain ⟨d,a,b⟩:=r.mem e;exact ⟨d,List.mem_cons_of_mem _ a,b⟩
theorem KV.mem {κ:Type}:∀ {xs:List (κ×V)} {vs:List (κ×Value)} {k:κ} {u:Value},KV xs vs→(k,u)∈vs→∃ x,(k,x)∈xs∧RelV x u
  | _,_,_,_,.nil,h=>by simp at h
  | _,_,_,_,.cons (a:=a) h0 r,h=>by
    rcases List.mem_cons.mp h with e | e
    · obtain ⟨e1,e2⟩:=h0
      subst e
      exact ⟨a.2,by rw [show a = (a.1,a.2) from rfl,e1];exact List.mem_cons_self,e2⟩
    · obtain ⟨d,p,q⟩:=KV.mem (xs:=_) (vs:=_) r e;exact ⟨d,List.mem_cons_of_mem _ p,q⟩
theorem rep_deq (I:Inv X pins σ H s):∀ {d d':D},DEq d d'→∀ {x y:V} {u v:Value} {A:Around},A.units + d.dep < cLine→Rep X.K H x d→Rep X.K H y d'→RelV x u→RelV y v →
    EqIn X.prog X.w A s u v true∧(∀ a b,u = .ref a→v = .ref b→∀ (E:Value→Shared→Prop) (Q:Value→Shared→Prop),(Q (.bool true) s→wpAny (model X.prog X.w) A (compareOp .Eq u v) Q E s)∧(Q (.bool false) s→wpAny (model X.prog X.w) A (compareOp .NotEq u v) Q E s)):=by
  intro d d' h
  induction h with
  | same f =>
    intro x y u v A hu r1 r2 e1 e2
    obtain ⟨a1,a2⟩:=rep_eqAt I _ f hu r1 r2 e1 e2
    exact ⟨EqIn.of a1,fun a b h1 h2 E Q=>⟨fun q=>(a2 a b h1 h2).1 _ _ _ _ q,fun q=>(a2 a b h1 h2).2 _ _ _ _ q⟩⟩
  | @dct es fs f hl hlook hd ih =>
    intro x y u v A hu r1 r2 e1 e2
    cases r1 with
    | dct q1 p1 =>
    cases r2 with
    | dct q2 p2 =>
    cases e1;cases e2
    rename_i a1 k1 a2 k2
    obtain ⟨z1,m1,v1,w1,o1⟩:=dk_rd I.hok q1
    obtain ⟨z2,m2,v2,w2,o2⟩:=dk_rd I.hok q2
    have hu':A.units + (D.depD es + 1) < cLine:=hu
    have len:v1.length = v2.length:=by
      have:=p1.length;have:=p2.length;have:=Paired.length w1;have:=Paired.length w2;omega
    have lk:Likes X.prog X.w A.in1 s v2 v1:=fun k u hm=>by
      obtain ⟨x,hx,rx⟩:=KV.mem w1 hm
      obtain ⟨d,hd1,rd⟩:=p1.mem hx
      have hf:=hlook k d hd1
      obtain ⟨g1,_⟩:=p2.get (k:=k)
      obtain ⟨y,hy,ry⟩:=g1 (f k) hf
      have:=KV.val w2 k
      rw [hy] at this
      obtain ⟨u2,e2,r2⟩:=RelO.some_of this
      refine ⟨u2,e2,(ih k d hd1 (A:=A.in1) ?_ rd ry rx r2).1⟩
      have:=D.depD_mem hd1
      show A.units + 1 + _ < cLine
      omega
    have key:∀ (E:Value→Shared→Prop) (Q:Value→Shared→Prop),(Q (.bool true) s→wpAny (model X.prog X.w) A (compareOp .Eq (.ref a1) (.ref a2)) Q E s)∧(Q (.bool false) s→wpAny (model X.prog X.w) A (compareOp .NotEq (.ref a1) (.ref a2)) Q E s):=fun E Q =>
      ⟨fun q=>dict_eq_true m1 m2 o1 o2 (by omega) len lk q,fun q=>dict_ne_false m1 m2 o1 o2 (by omega) len lk q⟩
    refine ⟨fun E Q q=>?_,fun a b h1 h2=>by cases h1;cases h2;exact key⟩
    by_cases e:a1 = a2
    · subst e
      exact EqAt.same _ _ _ _ _ q
    · unfold eqBool
      refine wpAny_holding (wpAny_ite_split (fun hab=>absurd (by have:=eq_of_beq hab;injection this) e) (fun _=>?_))
      exact wpAny_bind ((key E _).1 (wpAny_truthy_bool q))
end
section
variable {X:Cx}
theorem op_eqD (hu:X.A.units + 8 < cLine):OpR X (compareOp .Eq) (fun x y H Q=>∃ a b d d',x = .ref a∧y = .ref b∧Rep X.K H x d∧Rep X.K H y d'∧DEq d d'∧d.dep≤8∧Q (.bl true) H):=by
  rintro pins s σ H x y v u Q I rx ry ⟨a,b,d,d',rfl,rfl,r1,r2,hd,hl,q⟩
  have:=rep_deq I hd (A:=X.A) (by omega) r1 r2 rx ry
  cases rx;cases ry
  exact (this.2 a b rfl rfl X.xe _).1 ⟨.bl true,H,I,rfl,q⟩
theorem op_neD (hu:X.A.units + 8 < cLine):OpR X (compareOp .NotEq) (fun x y H Q=>∃ a b d d',x = .ref a∧y = .ref b∧Rep X.K H x d∧Rep X.K H y d'∧DEq d d'∧d.dep≤8∧Q (.bl false) H):=by
  rintro pins s σ H x y v u Q I rx ry ⟨a,b,d,d',rfl,rfl,r1,r2,hd,hl,q⟩
  have:=rep_deq I hd (A:=X.A) (by omega) r1 r2 rx ry
  cases rx;cases ry
  exact (this.2 a b rfl rfl X.xe _).2 ⟨.bl false,H,I,rfl,q⟩
end
end L2
namespace L2
open PySem PySem.Spec PyProof.Rows
section
variable {X:Cx} {pins:List (Addr×Obj)} {σ:St} {H:Hp} {s:Shared} {a:Addr} {kvs:List (Key×V)}
theorem Inv.freeze (I:Inv X pins σ H s) (h:H a = some (.dK kvs)):∃ o:Obj,s.heap.get? a = some o∧Inv X pins σ (upd H a (.frz o (.dK kvs))) s:=by
  obtain ⟨z,m,vs,rel,o,es,ep,ho,r⟩:=id (I.hok a _ h)
  have ne:∀ {b:Addr} {u:Option HO},H b = u→u≠some (.dK kvs)→b≠a:=fun e n q=>n (by rw [← e,q,h])
  refine ⟨o,ho,I.ok,I.os,I.bare,⟨I.base.keep,I.base.slot,fun b ob e n hx=>?_,I.base.there,fun b xs e=>?_,fun b ob u e=>?_,fun b ps e=>?_⟩,I.loc,I.cell,?_,fun x c e=>?_,fun p hp=>?_,fun b u e=>?_,I.len⟩
  · have:=I.base.free b ob e n hx;rw [upd_ne (ne this (by simp))];exact this
  · have:=I.base.tups b xs e;rw [upd_ne (ne this (by simp))];exact this
  · have:=I.base.frzs b ob u e;rw [upd_ne (ne this (by simp))];exact this
  · obtain ⟨mo,this⟩:=I.base.tbls b ps e;exact ⟨mo,by rw [upd_ne (ne this (by simp))];exact this⟩
  · rw [upd_ne (ne I.free (by simp))];exact I.free
  · have:=I.freeC x c e;rw [upd_ne (ne this (by simp))];exact this
  · obtain ⟨e,n,r⟩:=I.pin p hp;exact ⟨e,by rw [upd_ne (ne n (by simp))];exact n,r⟩
  · have own:∀ {c d:Addr},H c = some (.own d)→upd H a (.frz o (.dK kvs)) c = some (.own d):=fun q=>by rw [upd_ne (ne q (by simp))];exact q
    have tup:∀ {c:Addr} {xs:List V},H c = some (.tup xs)→upd H a (.frz o (.dK kvs)) c = some (.tup xs):=fun q=>by rw [upd_ne (ne q (by simp))];exact q
    by_cases hb:b = a
    · subst hb
      rw [upd_same] at e
      cases e
      exact ⟨ho,(I.hok b _ h).stay (fun _ _ _ q=>q) (fun c q=>own q) (fun c xs q=>tup q)⟩
    · rw [upd_ne hb] at e
      exact (I.hok b u e).stay (fun _ _ _ q=>q) (fun c q=>own q) (fun c xs q=>tup q)
theorem Inv.thaw {o:Obj} (I:Inv X pins σ H s) (h:H a = some (.frz o (.dK kvs))) (h0:∀ o u,X.H₀ a≠some (.frz o u)):Inv X pins σ (upd H a (.dK kvs)) s:=by
  have ne:∀ {b:Addr} {u:Option HO},H b = u→u≠some (.frz o (.dK kvs))→b≠a:=fun e n q=>n (by rw [← e,q,h])
  refine ⟨I.ok,I.os,I.bare,⟨I.base.keep,I.base.slot,fun b ob e n hx=>?_,I.base.there,fun b xs e=>?_,fun b ob u e=>?_,fun b ps e=>?_⟩,I.loc,I.cell,?_,fun x c e=>?_,fun p hp=>?_,fun b u e=>?_,I.len⟩
  · have:=I.base.free b ob e n hx;rw [upd_ne (ne this (by simp))];exact this
  · have:=I.base.tups b xs e;rw [upd_ne (ne this (by simp))];exact this
  · have:=I.base.frzs b ob u e
    rw [upd_ne (fun (q:b = a)=>h0 ob u (by rw [← q];exact e))];exact this
  · obtain ⟨mo,this⟩:=I.base.tbls b ps e;exact ⟨mo,by rw [upd_ne (ne this (by simp))];exact this⟩
  · rw [upd_ne (ne I.free (by simp))];exact I.free
  · have:=I.freeC x c e;rw [upd_ne (ne this (by simp))];exact this
  · obtain ⟨e,n,r⟩:=I.pin p hp;exact ⟨e,by rw [upd_ne (ne n (by simp))];exact n,r⟩
  · have own:∀ {c d:Addr},H c = some (.own d)→upd H a (.dK kvs) c = some (.own d):=fun q=>by rw [upd_ne (ne q (by simp))];exact q
    have tup:∀ {c:Addr} {xs:List V},H c = some (.tup xs)→upd H a (.dK kvs) c = some (.tup xs):=fun q=>by rw [upd_ne (ne q (by simp))];exact q
    by_cases hb:b = a
    · subst hb
      rw [upd_same] at e
      cases e
      exact (I.hok b _ h).2.stay (fun _ _ _ q=>q) (fun c q=>own q) (fun c xs q=>tup q)
    · rw [upd_ne hb] at e
      exact (I.hok b u e).stay (fun _ _ _ q=>q) (fun c q=>own q) (fun c xs q=>tup q)
theorem kV_of {k:Key} {v:Value} (h:keyIs k v = true):RelV (kV k) v:=by
  rcases keyIs_shape h with ⟨i,t,rfl,rfl⟩ | ⟨x,t,rfl,rfl⟩
  · exact ⟨t,rfl⟩
  · exact ⟨t,rfl⟩
theorem frz_at {o:Obj} (I:Inv X pins σ H s) (h:H a = some (.frz o (.dK kvs))):(a == sysModules) = false∧∃ vs ep,KV kvs vs∧s.heap.DictAt (mixKind X.prog X.w) a vs ep∧∃ es,o.data = .dict es ep:=by
  obtain ⟨ho,z,m,vs,rel,o',es,ep,ho',r⟩:=id (I.hok a _ h)
  rw [ho] at ho'
  cases ho'
  exact ⟨m,vs,ep,rel,⟨o,es,ho,r⟩,es,r.2.1⟩
theorem KV.get {κ:Type}:∀ {xs:List (κ×V)} {vs:List (κ×Value)} {i:Nat} {k:κ} {v:V},KV xs vs→xs[i]? = some (k,v)→∃ u,vs[i]? = some (k,u)∧RelV v u
  | _,_,_,_,_,.nil,e=>by simp at e
  | _,_,0,k,v,.cons (b:=b) h _,e=>by
    simp at e
    subst e
    exact ⟨b.2,by have:=h.1;simp at this;subst this;rfl,h.2⟩
  | _,_,i + 1,k,v,.cons _ r,e=>by
    obtain ⟨u,p,q⟩:=KV.get (i:=i) (k:=k) (v:=v) r (by simpa using e)
    exact ⟨u,by simpa using p,q⟩
end
def Itd (a:Addr) (o:Obj) (kvs:List (Key×V)):It :=
  ⟨fun i H=>H a = some (.frz o (.dK kvs))∧i < kvs.length,fun i H x H'=>H' = H∧∃ k v,kvs[i]? = some (k,v)∧x = kV k,fun i H=>H a = some (.frz o (.dK kvs))∧kvs.length≤i⟩
def Itv (a:Addr) (o:Obj) (kvs:List (Key×V)):It :=
  ⟨fun i H=>H a = some (.frz o (.dK kvs))∧i < kvs.length,fun i H x H'=>H' = H∧∃ k,kvs[i]? = some (k,x),fun i H=>H a = some (.frz o (.dK kvs))∧kvs.length≤i⟩
theorem keyiter_nocell {h:Heap} {it d:Addr} {i n ep:Nat} (x:h.IsKeyIter it d i n ep):∃ o,h.get? it = some o∧∀ v,o.data≠.cell v:=by
  obtain ⟨o,e,c,q⟩:=x
  exact ⟨o,e,fun v z=>by rw [q] at z;cases z⟩
theorem turn_keys {P:Program} {w:World} {K:PySem.W.Frag} {tg:Expr} {o:Obj} {es:Array DictEntry} {ep:Nat} (a it:Addr) (kvs:List (Key×V)) (ho:o.data = .dict es ep):Turn P w K tg (Itd a o kvs) [it] it (fun i h=>h.IsKeyIter it a i kvs.length ep) where
  mem:=by simp
  obj:=fun i h st b hb=>by
    have e:b = it:=by simpa using hb
    subst e
    exact keyiter_nocell st
  keep:=fun i h h' st k=>st.at fun o e=>k it (by simp) o e
  item:=by
    intro X hP hw hK hc i pins s σ H E I hf st hg
    subst hP hw hK
    obtain ⟨hfz,hi⟩:=hg
    obtain ⟨m,vs,ep',rel,da,es',ho'⟩:=frz_at I hfz
    rw [ho] at ho';cases ho'
    have hl:=Paired.length rel
    obtain ⟨⟨k,v⟩,hx⟩:∃ p,kvs[i]? = some p:=⟨kvs[i],by simp [hi]⟩
    obtain ⟨u,hu,ru⟩:=KV.get rel hx
    obtain ⟨f0,f1,f2,f3,f4,f5⟩:=hf it (by simp)
    rw [hl] at st
    refine wpAny_pyNext_dict_item st da hu fun key h' hkey st' sb=>?_
    have I1:Inv X pins σ H { s with heap:=h' }:=I.turned (t':=s.toks) (fun b o hb e=>(sb.2 b hb).trans e) f0 f1 f3 f4 f5
    obtain ⟨o2,e2,c2,d2⟩:=id st'
    rw [← hl] at st'
    exact ⟨key,rfl,go_of (s:={ s with heap:=h' }) e2 c2 d2 (by decide) ⟨kV k,H,I1,kV_of hkey,⟨rfl,k,v,hx,rfl⟩,st',fun b hb=>(hf b hb).1⟩⟩
  done:=by
    intro X hP hw hK hc i pins s σ H E I hf st hg
    subst hP hw hK
    obtain ⟨hfz,hi⟩:=hg
    obtain ⟨m,vs,ep',rel,da,es',ho'⟩:=frz_at I hfz
    rw [ho] at ho';cases ho'
    have hl:=Paired.length rel
    obtain ⟨f0,f1,f2,f3,f4,f5⟩:=hf it (by simp)
    rw [hl] at st
    exact wpAny_pyNext_dict_end (I.ok.hd hc) st da (by simp;omega) fun h' eb=>⟨rfl,I.turned (t':=s.toks) (fun b o hb e=>eb b o hb e) f0 f1 f3 f4 f5⟩
  self:=fun _ _ _ _ _ st h=>wpAny_pyIter_keyiter st h
def Fzn (a:Addr) (o:Obj) (kvs:List (Key×V)) (H1 H2:Hp):Prop:=H2 a = some (.frz o (.dK kvs))∧(H2 = H1∨(H1 a = some (.dK kvs)∧H2 = upd H1 a (.frz o (.dK kvs))))
def iDict (tl:TE):TI:=fun σ H R=>tl σ H fun x H1=>∃ a kvs,x = .ref a∧Rd H1 a (.dK kvs)∧∀ o H2,Fzn a o kvs H1 H2→R (Itd a o kvs) H2
section
variable {X:Cx} {tg:Expr}
theorem Inv.fzn {pins:List (Addr×Obj)} {σ:St} {H:Hp} {s:Shared} {a:Addr} {kvs:List (Key×V)} (I:Inv X pins σ H s) (h:Rd H a (.dK kvs)):∃ o H2,Fzn a o kvs H H2∧Inv X pins σ H2 s:=by
  rcases h with h | ⟨o,h⟩
  · obtain ⟨o,_,I2⟩:=I.freeze h
    exact ⟨o,_,⟨upd_same,.inr ⟨h,rfl⟩⟩,I2⟩
  · exact ⟨o,H,⟨h,.inl rfl⟩,I⟩
theorem pi_dict {l:Expr} {tl:TE} (hl:PE X l tl):PI X tg l (iDict tl):=by
  intro pins s σ H R I h
  refine thn (hl pins s σ H _ I h) fun v s1 ⟨x,H1,I1,r1,q1⟩=>?_
  obtain ⟨a,kvs,e,hq,q⟩:=q1
  subst e
  cases r1
  obtain ⟨o,H2,fz,I2⟩:=I1.fzn hq
  obtain ⟨m,vs,ep,rel,da,es,ho⟩:=frz_at I2 fz.1
  have hlen:=Paired.length rel
  refine wpAny_pyIter_dict m da ?_
  rw [← hlen]
  refine ⟨s1.heap.objs.size,[s1.heap.objs.size],_,_,H2,rfl,I2.kept (t':=s1.toks) fun b o e=>Heap.get?_push_of_some _ e,turn_keys a _ kvs ho,⟨_,Heap.get?_push_size _ rfl,rfl,rfl⟩,fun b hb=>?_,q o H2 fz⟩
  have e:b = s1.heap.objs.size:=by simpa using hb
  subst e
  exact I2.fpOk (Nat.le_refl _) (I2.hok.fresh (Nat.le_refl _))
end
def Thw (a:Addr) (o:Obj) (kvs:List (Key×V)) (H1 H H':Hp):Prop:=(H1 a = some (.dK kvs)∧H' = upd H a (.dK kvs))∨(H1 a≠some (.dK kvs)∧H' = H)
def thawE (a:Addr) (o:Obj) (kvs:List (Key×V)) (H1:Hp) (D:Ends):Ends where
  nx:=fun σ H=>H a = some (.frz o (.dK kvs))∧∀ H',Thw a o kvs H1 H H'→D.nx σ H'
  rt:=fun v H=>H a = some (.frz o (.dK kvs))∧∀ H',Thw a o kvs H1 H H'→D.rt v H'
  bk:=fun _ _=>False
  ct:=fun _ _=>False
def LoopVC (J:It) (g:TG) (tb:TS) (D:Ends) (σ:St) (H1:Hp):Prop:=∃ W:Nat→Nat→St→Hp→Prop,(∃ m,W 0 m σ H1)∧∀ i m σ H,W i m σ H →
  (J.stop i H∧D.nx σ H)∨(J.go i H∧∃ N:St→Hp→Prop,(∀ σ' H',N σ' H'→∃ m',m' < m∧W (i + 1) m' σ' H')∧∀ x H',J.yld i H x H'→g x σ H' fun σ2 H2=>tb (D.loop N) σ2 H2)
def tForD (te:TE) (g:TG) (tb:TS):TS:=fun D σ H=>te σ H fun x H1=>∃ a kvs,x = .ref a∧Rd H1 a (.dK kvs)∧∀ o H2,Fzn a o kvs H1 H2→LoopVC (Itd a o kvs) g tb (thawE a o kvs H1 D) σ H2
section
variable {X:Cx} {tg:Expr}
theorem SP.thaw {pins:List (Addr×Obj)} {D:Ends} {f:Flow} {s':Shared} {a:Addr} {o:Obj} {kvs:List (Key×V)} {H1:Hp} (h0:H1 a = some (.dK kvs)→∀ o u,X.H₀ a≠some (.frz o u)) (h:SP X pins (thawE a o kvs H1 D) f s'):SP X pins D f s':=by
  have key:∀ {σ:St} {H:Hp},Inv X pins σ H s'→H a = some (.frz o (.dK kvs))→∃ H',Inv X pins σ H' s'∧Thw a o kvs H1 H H':=fun {σ H} I e=>by
    by_cases hc:H1 a = some (.dK kvs)
    · exact ⟨_,I.thaw e (h0 hc),.inl ⟨hc,rfl⟩⟩
    · exact ⟨H,I,.inr ⟨hc,rfl⟩⟩
  cases f with
  | next =>
    obtain ⟨σ',H',I,e,q⟩:=h
    obtain ⟨H2,I2,t⟩:=key I e
    exact ⟨σ',H2,I2,q H2 t⟩
  | ret v =>
    obtain ⟨x,σ',H',I,r,e,q⟩:=h
    obtain ⟨H2,I2,t⟩:=key I e
    exact ⟨x,σ',H2,I2,r,q H2 t⟩
  | brk=>obtain ⟨_,_,_,q⟩:=h;exact q.elim
  | cont=>obtain ⟨_,_,_,q⟩:=h;exact q.elim
theorem for_gen {iter:Expr} {body:List Stmt} {g:TG} {tb:TS} {pos:Pos} {pins:List (Addr×Obj)} {s:Shared} {σ:St} {D:Ends} (hp:PassesOwn (model X.prog X.w) X.A X.env X.xe) (hc:X.calm = true) (hg:PG X tg g) (hb:PSs X body tb)
    (h:wpAny (model X.prog X.w) X.A (eval iter X.env) (fun v s1=>wpAny (model X.prog X.w) X.A (pyIter v) (PIE X pins σ tg fun J H1=>∃ D':Ends,(∀ f s',SP X pins D' f s'→SP X pins D f s')∧LoopVC J g tb D' σ H1) X.xe s1) X.xe s)
    (hs:∀ x,foldedSetIterable iter X.env x = pure x:=by intro _;rfl):wpAny (model X.prog X.w) X.A (exec (.For tg iter body [] pos) X.env) (SP X pins D) X.xe s:=by
  refine wpAny_For (thn h fun v s1 h1=>thn h1 fun itv s2 h2=>?_) hs
  obtain ⟨it,fp,tn,J,H2,e,I2,T,st2,f2,D',hD,W,⟨m0,w0⟩,turn⟩:=h2
  subst e
  refine codeAny_mono (R:=fun r s'=>match r with | Except.ok f=>SP X pins D' f s' | Except.error e=>cameBackBy (model X.prog X.w) X.A X.env X.xe e s') ?_ (fun r s' q=>by
    cases r with
    | ok f=>exact hD f s' q
    | error e=>exact q)
  have stat:∀ {H':Hp},(∀ b∈fp,H' b = none)→∀ b∈fp,FpOk X pins H' b:=fun hn b hb=>⟨hn b hb,(f2 b hb).2⟩
  refine codeAny_forLoop_any (fun n s'=>∃ i σ' H',Inv X pins σ' H' s'∧tn i s'.heap∧(∀ b∈fp,H' b = none)∧W i n σ' H') ?_ m0 ⟨0,σ,H2,I2,st2,fun b hb=>(f2 b hb).1,w0⟩
  rintro n s3 ⟨i,σ3,H3,I3,st3,fr3,w3⟩
  rcases turn i n σ3 H3 w3 with ⟨stop,qn⟩ | ⟨go,N,hN,step⟩
  · refine wpAny_passesOwn hp (thn (T.done X rfl rfl rfl hc i pins s3 σ3 H3 X.xe I3 (stat fr3) st3 stop) fun r s4 ⟨hr,I4⟩=>?_)
    subst hr
    exact wpAny_execs_nil ⟨σ3,H3,I4,qn⟩
  · refine wpAny_passesOwn hp (thn (T.item X rfl rfl rfl hc i pins s3 σ3 H3 X.xe I3 (stat fr3) st3 go) fun r s4 ⟨u,hr,h4⟩=>?_)
    subst hr
    refine wpAny_passesOwn hp (thn h4 fun _ s5 ⟨x,H5,I5,r5,y5,st5,fr5⟩=>?_)
    have I5':=I5.pinned (stat fr5) (T.obj _ _ st5)
    refine wpAny_passesOwn hp (thn (hg _ s5 σ3 H5 x u _ I5' r5 (step x H5 y5)) fun _ s6 ⟨σ6,H6,I6,q6⟩=>?_)
    refine wpAny_passesOwn hp (thn (hb _ s6 σ6 H6 _ I6 q6) fun f s7 q7=>?_)
    have again:∀ {σ7:St} {H7:Hp},Inv X (pins ++ pinsAt fp s5.heap) σ7 H7 s7→N σ7 H7→∃ m,m < n∧∃ i σ' H',Inv X pins σ' H' s7∧tn i s7.heap∧(∀ b∈fp,H' b = none)∧W i m σ' H':=fun {σ7 H7} I7 n7=>by
      obtain ⟨m',hm,w7⟩:=hN σ7 H7 n7
      refine ⟨m',hm,i + 1,σ7,H7,I7.unpinned,T.keep _ _ _ st5 fun b hb o e=>(I7.pin (b,o) (List.mem_append_right _ (List.mem_append_right _ (mem_pinsAt hb e)))).1,fun b hb=>?_,w7⟩
      obtain ⟨o,e,d⟩:=T.obj _ _ st5 b hb
      exact (I7.pin (b,o) (List.mem_append_right _ (List.mem_append_right _ (mem_pinsAt hb e)))).2.1
    cases f with
    | next=>obtain ⟨σ7,H7,I7,n7⟩:=q7;exact again I7 n7
    | cont=>obtain ⟨σ7,H7,I7,n7⟩:=q7;exact again I7 n7
    | brk=>obtain ⟨σ7,H7,I7,q7⟩:=q7;exact ⟨σ7,H7,I7.unpinned,q7⟩
    | ret v=>obtain ⟨x7,σ7,H7,I7,r7,q7⟩:=q7;exact ⟨x7,σ7,H7,I7.unpinned,r7,q7⟩
theorem keys_made {pins:List (Addr×Obj)} {s1:Shared} {σ:St} {H1:Hp} {a:Addr} {kvs:List (Key×V)} {R:It→Hp→Prop} {E:Value→Shared→Prop} (I1:Inv X pins σ H1 s1) (hq:Rd H1 a (.dK kvs))
    (q:∀ o H2,Fzn a o kvs H1 H2→(H1 a = some (.dK kvs)→∀ o u,X.H₀ a≠some (.frz o u))→R (Itd a o kvs) H2):wpAny (model X.prog X.w) X.A (pyIter (.ref a)) (PIE X pins σ tg R) E s1:=by
  obtain ⟨o,H2,fz,I2⟩:=I1.fzn hq
  obtain ⟨m,vs,ep,rel,da,es,ho⟩:=frz_at I2 fz.1
  have hlen:=Paired.length rel
  refine wpAny_pyIter_dict m da ?_
  rw [← hlen]
  refine ⟨s1.heap.objs.size,[s1.heap.objs.size],_,_,H2,rfl,I2.kept (t':=s1.toks) fun b o e=>Heap.get?_push_of_some _ e,turn_keys a _ kvs ho,⟨_,Heap.get?_push_size _ rfl,rfl,rfl⟩,fun b hb=>?_,q o H2 fz (fun hd o u z=>?_)⟩
  · have e:b = s1.heap.objs.size:=by simpa using hb
    subst e
    exact I2.fpOk (Nat.le_refl _) (I2.hok.fresh (Nat.le_refl _))
  · have:=I1.base.frzs a o u z
    rw [hd] at this
    cases this
theorem ps_forD {iter:Expr} {body:List Stmt} {te:TE} {g:TG} {tb:TS} {pos:Pos} (hp:PassesOwn (model X.prog X.w) X.A X.env X.xe) (hc:X.calm = true) (hi:PE X iter te) (hg:PG X tg g) (hb:PSs X body tb)
    (hs:∀ x,foldedSetIterable iter X.env x = pure x:=by intro _;rfl):PS X (.For tg iter body [] pos) (tForD te g tb):=by
  intro pins s σ H D I h
  refine for_gen (σ:=σ) hp hc hg hb (thn (hi pins s σ H _ I h) fun v s1 ⟨x,H1,I1,r1,q1⟩=>?_) hs
  obtain ⟨a,kvs,e,hr,q⟩:=q1
  subst e
  cases r1
  exact keys_made I1 hr fun o H2 fz h0=>⟨thawE a o kvs H1 D,fun f s'=>SP.thaw h0,q o H2 fz⟩
structure Fs (o:Obj) (a:Addr) (kvs:List (Key×V)) (H1 H:Hp):Prop where
  rest:∀ b ob,b≠a→H1 b = some ob→H b = some ob
  held:H a = some (.frz o (.dK kvs))
theorem Fs.sm {o:Obj} {a:Addr} {kvs:List (Key×V)} {H1 H:Hp} (f:Fs o a kvs H1 H) (h:Rd H1 a (.dK kvs)):Sm H1 H:=by
  have key:∀ (b:Addr) (u:HO),(∀ z,u≠.frz z (.dK kvs))→Rd H1 b u→(b = a→u = .dK kvs)→Rd H b u:=fun b u _ hr hb=>by
    by_cases e:b = a
    · subst e;rw [hb rfl];exact .inr ⟨o,f.held⟩
    · rcases hr with q | ⟨z,q⟩
      · exact .inl (f.rest b _ e q)
      · exact .inr ⟨z,f.rest b _ e q⟩
  have same:∀ {u:HO},(∀ z y,u≠.frz z y)→Rd H1 a u→u = .dK kvs:=fun {u} nu hr=>by
    rcases hr with q | ⟨z,q⟩ <;> rcases h with q' | ⟨z',q'⟩ <;> rw [q] at q'
    · exact Option.some.inj q'
    · exact absurd (Option.some.inj q') (nu _ _)
    · cases q'
    · cases q';rfl
  exact ⟨fun b xs hr=>key b _ (by simp) hr fun e=>same (by simp) (e ▸ hr),fun b xs hr=>key b _ (by simp) hr fun e=>same (by simp) (e ▸ hr),fun b xs hr=>key b _ (by simp) hr fun e=>same (by simp) (e ▸ hr)⟩
theorem Fs.of {o:Obj} {a:Addr} {kvs:List (Key×V)} {H1 H2:Hp} (f:Fzn a o kvs H1 H2):Fs o a kvs H1 H2:=by
  obtain ⟨h,e | ⟨e1,e2⟩⟩:=f
  · subst e;exact ⟨fun _ _ _ q=>q,h⟩
  · subst e2;exact ⟨fun b ob n q=>by rw [upd_ne n];exact q,h⟩
theorem Fs.same {o:Obj} {a:Addr} {kvs:List (Key×V)} {H1 H H':Hp} (f:Fs o a kvs H1 H) (e:Same H H'):Fs o a kvs H1 H':=⟨fun b ob n q=>e _ _ (f.rest b ob n q),e _ _ f.held⟩
theorem Fs.thaw {o:Obj} {a:Addr} {kvs:List (Key×V)} {H1 H H':Hp} (f:Fs o a kvs H1 H) (hr:Rd H1 a (.dK kvs)) (fz:∃ H2,Fzn a o kvs H1 H2) (t:Thw a o kvs H1 H H'):Same H1 H'∧∀ b,b≠a→H' b = H b:=by
  rcases t with ⟨e,rfl⟩ | ⟨e,rfl⟩
  · refine ⟨fun b ob q=>?_,fun b n=>upd_ne n⟩
    by_cases hb:b = a
    · subst hb;rw [upd_same];rw [e] at q;exact q
    · rw [upd_ne hb];exact f.rest b ob hb q
  · refine ⟨fun b ob q=>?_,fun _ _=>rfl⟩
    by_cases hb:b = a
    · subst hb
      obtain ⟨H2,h2,c | ⟨c,_⟩⟩:=fz
      · subst c;rw [h2] at q;rw [← q];exact f.held
      · exact absurd c e
    · exact f.rest b ob hb q
theorem forD {o:Obj} {a:Addr} {kvs:List (Key×V)} {H1 H2:Hp} {g:TG} {tb:TS} {D:Ends} {σ:St} (hr:Rd H1 a (.dK kvs)) (fz:Fzn a o kvs H1 H2) (Pv:Nat→St→Hp→Prop) (h0:Pv 0 σ H1)
    (hz:∀ i σ H H',(∀ b,b≠a→H' b = H b)→Pv i σ H→Pv i σ H')
    (hs:∀ i k v σ H,kvs[i]? = some (k,v)→Fs o a kvs H1 H→Pv i σ H→g (kV k) σ H fun σ2 H2=>tb
      { nx:=fun σ H=>Fs o a kvs H1 H∧Pv (i + 1) σ H,ct:=fun σ H=>Fs o a kvs H1 H∧Pv (i + 1) σ H,bk:=(thawE a o kvs H1 D).nx,rt:=(thawE a o kvs H1 D).rt } σ2 H2)
    (hd:∀ σ H,Same H1 H→Pv kvs.length σ H→D.nx σ H):LoopVC (Itd a o kvs) g tb (thawE a o kvs H1 D) σ H2:=by
  have p2:Pv 0 σ H2:=hz 0 σ H1 H2 (by
    obtain ⟨_,e | ⟨_,e⟩⟩:=fz
    · subst e;exact fun _ _=>rfl
    · subst e;exact fun b n=>upd_ne n) h0
  refine ⟨fun i m σ H=>m = kvs.length - i∧i≤kvs.length∧Fs o a kvs H1 H∧Pv i σ H,⟨kvs.length,by simp,Nat.zero_le _,Fs.of fz,p2⟩,?_⟩
  rintro i m σ H ⟨rfl,hi,fs,p⟩
  by_cases hlt:i < kvs.length
  · refine .inr ⟨⟨fs.held,hlt⟩,fun σ' H'=>Fs o a kvs H1 H'∧Pv (i + 1) σ' H',fun σ' H' q=>⟨kvs.length - (i + 1),by omega,rfl,hlt,q.1,q.2⟩,?_⟩
    rintro x H' ⟨rfl,k,v,hx,rfl⟩
    exact hs i k v σ H' hx fs p
  · have e:i = kvs.length:=by omega
    subst e
    exact .inl ⟨⟨fs.held,Nat.le_refl _⟩,fs.held,fun H3 t=>let ⟨s1,s2⟩:=fs.thaw hr ⟨_,fz⟩ t;hd σ H3 s1 (hz _ _ _ _ s2 p)⟩
end
end L2
namespace L2
open PySem PySem.Spec PyProof.Rows
def D.ty:D→String
  | .non=>"NoneType" | .bl _=>"bool" | .int _=>"int" | .str _=>"str" | .lst _=>"list" | .tup _=>"tuple" | .dct _=>"dict"
def isiB (a b:String):Bool:=a == b || (a == "bool" && b == "int")
def tyOk (b:String):Bool:=["bool","int","str","list","tuple","dict"].contains b
section
variable {X:Cx}
theorem kit_of (K:PySem.W.Frag) (d:D) {b:String} (h:tyOk b = true):PySem.W.kitOne K (.type d.ty) (.type b) = some (isiB d.ty b):=by
  have hb:b = "bool"∨b = "int"∨b = "str"∨b = "list"∨b = "tuple"∨b = "dict":=by simpa [tyOk] using h
  rcases hb with rfl | rfl | rfl | rfl | rfl | rfl <;> cases d <;> (show PySem.W.kitOne K (.type _) (.type _) = some _) <;> with_unfolding_all rfl
theorem isi_rep {pins:List (Addr×Obj)} {σ:St} {H:Hp} {s:Shared} {A:Around} {E:Value→Shared→Prop} {Q:Value→Shared→Prop} {x:V} {u:Value} {d:D} {b:String} (I:Inv X pins σ H s) (rx:RelV x u) (r:Rep X.K H x d) (h:tyOk b = true)
    (q:∀ tk,Q (.bool (isiB d.ty b)) { s with toks:=tk }):wpAny (model X.prog X.w) A (call (.builtin "isinstance") [u,.type b]) Q E s:=by
  have e:=kit_of X.K d h
  cases r with
  | non=>cases rx;exact PySem.W.kia_one PySem.W.kitx_none I.kIn True.intro e (fun z=>nomatch z) q
  | bl y=>cases rx;exact PySem.W.kia_one PySem.W.kitx_bool I.kIn True.intro e (fun z=>nomatch z) q
  | int i=>obtain ⟨t,rfl⟩:=rx;exact PySem.W.kia_one PySem.W.kitx_int I.kIn True.intro e (fun z=>nomatch z) q
  | str y=>obtain ⟨t,rfl⟩:=rx;exact PySem.W.kia_one PySem.W.kitx_str I.kIn True.intro e (fun z=>nomatch z) q
  | lst hq _ =>
    cases rx
    obtain ⟨its,_,⟨o,n,h1,h2,_⟩,_⟩:=I.list hq
    exact PySem.W.kia_one PySem.W.kitx_list I.kIn ⟨o,h1,h2⟩ e (fun z=>nomatch z) q
  | tup hq _ =>
    cases rx
    obtain ⟨its,_,⟨o,h1,h2,_⟩,_⟩:=I.tuple hq
    exact PySem.W.kia_one PySem.W.kitx_tuple I.kIn ⟨o,h1,h2⟩ e (fun z=>nomatch z) q
  | dct hq _ =>
    cases rx
    obtain ⟨_,_,vs,_,o,es,ep,h1,h2,_⟩:=dk_rd I.hok hq
    exact PySem.W.kia_one PySem.W.kitx_dict I.kIn ⟨o,h1,h2.1⟩ e (fun z=>nomatch z) q
theorem call_isi:CallR X (.builtin "isinstance") (fun xs H Q=>∃ x d b,xs = [x,.ty b]∧Rep X.K H x d∧tyOk b = true∧Q (.bl (isiB d.ty b)) H):=by
  rintro pins s σ H xs us Q I r ⟨x,d,b,rfl,rd,hb,q⟩
  obtain ⟨u,v,rfl,ru,rv⟩:=vals2 r
  cases rv
  exact isi_rep I ru rd hb fun tk=>⟨.bl _,H,I.tok tk,rfl,q⟩
theorem call_all:CallR X (.builtin "all") (fun xs H Q=>X.calm = true∧∃ (a:Addr) (bs:List Bool),xs = [.ref a]∧SqL X.K H a (bs.map V.bl)∧Q (.bl (bs.all id)) H):=by
  rintro pins s σ H xs us Q I r ⟨hc,a,bs,rfl,hq,q⟩
  obtain ⟨u,rfl,ru⟩:=vals1 r
  cases ru
  obtain ⟨its,rv,p,hz⟩:=I.list hq
  have hl:=rv.length
  rw [List.length_map] at hl
  refine call_all_walk (wpAny_pyIter_list p.isList ⟨s.heap.objs.size,_,_,_,_,_,fun i=>bs.getD i true,rfl,Walks.list (A:=X.A.in1) (show X.A.in1.handled = none from I.ok.hd hc) s.heap.objs.size a (Nat.ne_of_lt (Heap.lt_size p.choose_spec.choose_spec.1)) its.toArray,⟨⟨_,Heap.get?_push_size _ rfl,rfl,rfl⟩,?_⟩,?_,?_⟩)
  · obtain ⟨o,n,e,c,d,dd⟩:=p
    exact ⟨o,Heap.get?_push_of_some _ e,c,n,dd⟩
  · intro i v s' R E' hv hR
    have hv':its[i]? = some v:=by simpa using hv
    have hi:i < bs.length:=by rw [hl];exact (List.getElem?_eq_some_iff.mp hv').1
    have hb:(bs.map V.bl)[i]? = some (V.bl bs[i]):=by simp [hi]
    obtain ⟨w',hw,rw'⟩:=rv.get hb
    rw [hv'] at hw
    cases hw
    cases rw'
    refine wpAny_truthy_bool ?_
    have:bs.getD i true = bs[i]:=by simp [hi]
    rw [← this];exact hR
  · intro h' tk hk
    have e1:((List.range its.toArray.size).all fun i=>bs.getD i true) = bs.all id:=by
      rw [List.size_toArray,← hl]
      apply Bool.eq_iff_iff.mpr
      simp only [List.all_eq_true,List.mem_range,id]
      constructor
      · intro h x hx
        obtain ⟨i,hi,rfl⟩:=List.mem_iff_getElem.mp hx
        have:=h i hi
        simpa [hi] using this
      · intro h i hi
        have:=h bs[i] (List.getElem_mem hi)
        simpa [hi] using this
    rw [e1]
    refine ⟨.bl _,H,I.kept (t':=tk) fun b o e=>hk b o (fun z=>?_) (Heap.get?_push_of_some _ e),rfl,q⟩
    have z':b = s.heap.objs.size:=by simpa using z
    exact absurd (Heap.lt_size e) (by rw [z'];exact Nat.lt_irrefl _)
end
end L2
namespace L2
open PySem PySem.Spec PyProof.Rows
def sLt (a b:Str):Prop:=a.cps.toList < b.cps.toList
def sLe (a b:Str):Prop:=a.cps.toList≤b.cps.toList
instance (a b:Str):Decidable (sLt a b):=inferInstanceAs (Decidable (a.cps.toList < b.cps.toList))
instance (a b:Str):Decidable (sLe a b):=inferInstanceAs (Decidable (a.cps.toList≤b.cps.toList))
theorem Str.ext' {a b:Str} (h:a.cps.toList = b.cps.toList):a = b:=by
  obtain ⟨x⟩:=a;obtain ⟨y⟩:=b
  have:x = y:=by obtain ⟨x⟩:=x;obtain ⟨y⟩:=y;exact congrArg Array.mk h
  rw [this]
theorem sLe_trans {a b c:Str} (h:sLe a b) (h':sLe b c):sLe a c:=List.le_trans h h'
theorem sLe_antisymm {a b:Str} (h:sLe a b) (h':sLe b a):a = b:=Str.ext' (List.le_antisymm h h')
theorem sLe_total (a b:Str):sLe a b∨sLe b a:=List.le_total _ _
theorem sLt_irrefl (a:Str):¬ sLt a a:=List.lt_irrefl _
theorem sLt_iff {a b:Str}:sLt a b ↔ ¬ sLe b a:=by unfold sLt sLe;exact List.not_le.symm
theorem sLt_trans {a b c:Str} (h:sLt a b) (h':sLt b c):sLt a c:=List.lt_trans h h'
theorem sLt_of_le_ne {a b:Str} (h:sLe a b) (n:a≠b):sLt a b:=sLt_iff.mpr fun h'=>n (sLe_antisymm h h')
theorem sLt_or {a b:Str}:sLt a b∨a = b∨sLt b a:=by
  by_cases e:a = b
  · exact .inr (.inl e)
  · rcases sLe_total a b with h | h
    · exact .inl (sLt_of_le_ne h e)
    · exact .inr (.inr (sLt_of_le_ne h (fun q=>e q.symm)))
def sortS (l:List Str):List Str:=l.mergeSort fun a b=>decide (sLe a b)
theorem sortS_perm (l:List Str):(sortS l).Perm l:=List.mergeSort_perm _ _
theorem sortS_pw (l:List Str):(sortS l).Pairwise sLe:=by
  have:=List.pairwise_mergeSort (le:=fun a b=>decide (sLe a b)) (fun a b c h1 h2=>decide_eq_true (sLe_trans (of_decide_eq_true h1) (of_decide_eq_true h2))) (fun a b=>by
    rcases sLe_total a b with h | h <;> simp [h]) l
  exact this.imp fun h=>of_decide_eq_true h
theorem sortS_eq {l l':List Str} (p:l'.Perm l) (h:l'.Pairwise sLe):l' = sortS l :=
  List.Perm.eq_of_pairwise (fun _ _ _ _=>sLe_antisymm) h (sortS_pw l) (p.trans (sortS_perm l).symm)
theorem sortS_congr {l l':List Str} (p:l.Perm l'):sortS l = sortS l':=sortS_eq ((sortS_perm l).trans p) (sortS_pw l)
theorem sortS_len (l:List Str):(sortS l).length = l.length:=(sortS_perm l).length_eq
theorem mem_sortS {l:List Str} {x:Str}:x∈sortS l ↔ x∈l:=(sortS_perm l).mem_iff
theorem sortS_nodup {l:List Str} (h:l.Nodup):(sortS l).Nodup:=(sortS_perm l).nodup_iff.mpr h
theorem rising_pw:∀ (p:Str) (l:List Str),risingS p l = true→(∀ x∈l,sLe p x)∧l.Pairwise sLe
  | _,[],_=>⟨fun _ h=>absurd h (by simp),List.Pairwise.nil⟩
  | p,x :: r,h=>by
    simp only [risingS,Bool.and_eq_true,Bool.not_eq_true'] at h
    obtain ⟨h1,h2⟩:=h
    obtain ⟨i1,i2⟩:=rising_pw x r h2
    have hx:sLe p x:=by
      rw [ltCps_eq] at h1
      exact List.not_lt.mp (of_decide_eq_false h1)
    exact ⟨fun y hy=>(List.mem_cons.mp hy).elim (fun e=>e ▸ hx) fun m=>sLe_trans hx (i1 y m),List.pairwise_cons.mpr ⟨i1,i2⟩⟩
theorem sortedS_pw {l:List Str} (h:sortedS l = true):l.Pairwise sLe:=by
  cases l with
  | nil=>exact List.Pairwise.nil
  | cons x r=>obtain ⟨i1,i2⟩:=rising_pw x r h;exact List.pairwise_cons.mpr ⟨i1,i2⟩
section
variable {X:Cx}
theorem strsAre_of:∀ {ss:List Str} {us:List Value},Vals (ss.map V.str) us→StrsAre us ss
  | [],_,h=>by cases h;exact .nil
  | s :: r,_,h=>by
    cases h with
    | cons h t=>obtain ⟨tk,rfl⟩:=h;exact .cons _ _ (strsAre_of t)
theorem of_strsAre:∀ {ss:List Str} {us:List Value},StrsAre us ss→Vals (ss.map V.str) us
  | _,_,.nil=>.nil
  | _,_,.cons _ t h=>.cons ⟨t,rfl⟩ (of_strsAre h)
theorem lenS {n:Nat} (h:n < 64):n≤sizeLine:=Nat.le_of_lt (small1000 (by omega))
theorem call_sortedL:CallR X (.builtin "sorted") (fun xs H Q=>∃ (a:Addr) (ss:List Str),xs = [.ref a]∧SqL X.K H a (ss.map V.str)∧ss.length < 64∧∀ p,H p = none→Q (.ref p) (upd H p (.lst ((sortS ss).map V.str)))):=by
  rintro pins s σ H xs us Q I r ⟨a,ss,rfl,hq,h64,q⟩
  obtain ⟨u,rfl,ru⟩:=vals1 r
  cases ru
  obtain ⟨its,rv,p,hz⟩:=I.list hq
  have hl:=rv.length
  rw [List.length_map] at hl
  refine sorted_strs p.isList (strsAre_of rv) (by omega) fun out ss' ho hp hs=>?_
  have e:=sortS_eq hp (sortedS_pw hs)
  subst e
  obtain ⟨ep,eo⟩:=sortedAll_at s.heap its out
  have hn:H (s.heap.objs.size + 1) = none:=I.hok.fresh (Nat.le_succ _)
  refine ⟨.ref (s.heap.objs.size + 1),_,?_,rfl,q _ hn⟩
  refine I.laid (t':=s.toks) (fun b o e=>sortedAll_old e) (Nat.le_succ _) ?_
  refine ⟨by rw [List.length_map,sortS_len];exact lenS h64,out.toList,ep,of_strsAre ho,?_⟩
  rw [eo]
theorem collect_src {prog:Program} {w:World} {A:Around} {E:Value→Shared→Prop} {s:Shared} {T:String} {r d:Addr} {n:Nat} {P:Nat→Value→Prop} {OK:Heap→Prop} {Q:List Value→Shared→Prop} (K:PySem.W.KdlSrc prog w T r d n P OK) (hh:A.handled = none) (hok:OK s.heap) (hn:n≤sizeLine)
    (h:∀ (h':Heap) (tk:Nat) (vs:List Value),(∀ b o,s.heap.get? b = some o→h'.get? b = some o)→vs.length = n→(∀ i v,vs[i]? = some v→P i v)→Q vs { s with heap:=h',toks:=tk }):wpAny (model prog w) A (collect (.ref r)) Q E s:=by
  have hlt:=K.there _ hok
  unfold collect
  refine wpAny_bind (wpAny_runValue (codeAny_builtin F.entry_proto_collect ?_))
  rw [Around.under_plainId F.plain_proto_collect _]
  show wpAny _ A.in1 (newList [] >>= fun l=>again (.builtin "list.__iadd__" ⟨[l,.ref r],[]⟩)) _ _ s
  refine wpAny_bind (wpAny_newObj_type (wpAny_pure ⟨plainId_quiet F.plain_list_iadd _,codeAny_builtin F.entry_list_iadd ?_⟩))
  rw [Around.under_plainId F.plain_list_iadd _]
  show wpAny _ A.in1 (Builtin.List.listExtendWith (.ref s.heap.objs.size) (.ref r) (.ref s.heap.objs.size)) _ _ _
  have hS:(s.heap.push { cls:=.type "list",data:=.seq ([]:List Value).toArray }).get? s.heap.objs.size = some { cls:=.type "list",data:=.seq #[] }:=Heap.get?_push_size _ rfl
  refine PySem.W.kdl_extend (R:=fun r s'=>match r with
      | .ok (.ret v)=>wpAny (model prog w) A (match v with
        | .ref a=>(do
          let o ← load a
          match o.data with
          | .seq xs _=>pure xs.toList
          | _=>unsupported "internal:collect")
        | _=>unsupported "internal:collect") Q E s'
      | .ok _=>False
      | .error e=>E e s') (A:=A) (s:={ s with heap:=s.heap.push { cls:=.type "list",data:=.seq ([]:List Value).toArray } }) K hh (K.keep _ _ hok fun b _ o e=>Heap.get?_push_of_some _ e) _ (Nat.ne_of_gt hlt.1) (Nat.ne_of_gt hlt.2) _ _ hS (fun h' tk acc c hk hS' hacc=>?_) hn
  refine wpAny_bind (wpAny_load hS' ?_)
  refine wpAny_pure (h h' tk acc.toList (fun b o e=>hk b o (Nat.ne_of_lt (Heap.lt_size e)) (Heap.get?_push_of_some _ e)) (by rw [Array.length_toList];exact hacc.1) fun i v e=>hacc.2 i v (by rw [← Array.getElem?_toList];exact e))
theorem sorted_by {pins:List (Addr×Obj)} {σ:St} {H:Hp} {s:Shared} {v:Value} {ss:List Str} {Q:VK} (I:Inv X pins σ H s) (h64:ss.length < 64)
    (hc:∀ (R:List Value→Shared→Prop),(∀ (h':Heap) (tk:Nat) (vs:List Value),(∀ b o,s.heap.get? b = some o→h'.get? b = some o)→StrsAre vs ss→R vs { s with heap:=h',toks:=tk })→wpAny (model X.prog X.w) X.A.in1 (collect v) R X.xe s)
    (q:∀ p,H p = none→Q (.ref p) (upd H p (.lst ((sortS ss).map V.str)))):wpAny (model X.prog X.w) X.A (call (.builtin "sorted") [v]) (EP X pins σ Q) X.xe s:=by
  refine Calls.call_function_entry kind_sorted plain_sorted entry_sorted (args_sorted1 _) ?_
  unfold Builtin.«sorted»
  refine wpAny_bind (m:=checkCount "sorted" 1 1 _) (wpAny_pure ?_)
  refine wpAny_bind (hc _ fun h1 tk vs hk hS=>?_)
  have hlen:vs.length = ss.length:=by
    have:=congrArg List.length hS.strs
    simpa using this
  refine wpAny_bind (wpAny_newList ?_)
  have hoL:(h1.push (seqObj "list" vs.toArray 0)).get? h1.objs.size = some (seqObj "list" vs.toArray 0):=Heap.get?_push_size _ rfl
  refine wpAny_bind (wpAny_holding (wpAny_call_entry slot_list_sort ⟨_,hoL,rfl⟩ entry_list_sort (list_sort_treeK strKind_oneLt hoL hS.keysOf (fun v₁ v₂ rest e=>keyKind_strs (by rw [← e];exact hS)) (by omega) fun st' a1 a2=>⟨_,rfl,?_⟩) (args_list_sort _)))
  obtain ⟨ss',b1,b2,b3⟩:=sorted_out_str hS a1 a2
  have e:=sortS_eq b2 (sortedS_pw b3)
  subst e
  have I1:Inv X pins σ H { s with heap:=h1,toks:=tk }:=I.kept hk
  have hn:H h1.objs.size = none:=I1.hok.fresh (Nat.le_refl _)
  obtain ⟨ep,eo⟩:=sortedHeap_at (out:=(arrOf st').map (·.2)) hoL
  refine wpAny_pure ⟨_,rfl,.ref h1.objs.size,_,?_,rfl,q _ hn⟩
  refine I1.laid (t':=tk) (fun b o e=>?_) (Nat.le_refl _) ⟨by rw [List.length_map,sortS_len];exact lenS h64,((arrOf st').map (·.2)).toList,ep,of_strsAre b1,?_⟩
  · have hb:=Heap.lt_size e
    rw [sortedHeap_old (Nat.ne_of_lt hb) (Nat.lt_of_lt_of_le hb (by rw [Heap.size_push];exact Nat.le_succ _))]
    exact Heap.get?_push_of_some _ e
  · rw [eo]
theorem walked_strs:∀ {ss:List Str} {vs:List Value},vs.length = ss.length→(∀ (i:Nat) (v:Value),vs[i]? = some v→∃ x,ss[i]? = some x∧∃ t,v = Value.str x t)→StrsAre vs ss
  | [],[],_,_=>.nil
  | [],_ :: _,h,_=>by simp at h
  | _ :: _,[],h,_=>by simp at h
  | x :: r,v :: vs,h,q=>by
    obtain ⟨y,e,t,rfl⟩:=q 0 v rfl
    simp at e
    subst e
    exact .cons _ t (walked_strs (by simpa using h) fun i u e=>by simpa using q (i + 1) u (by simpa using e))
def keysS (kvs:List (Key×V)) (ks:List Str):Prop:=kvs.map (·.1) = ks.map Sum.inr
theorem keysS.get {kvs:List (Key×V)} {ks:List Str} (h:keysS kvs ks) {i:Nat} {k:Key} {v:V} (e:kvs[i]? = some (k,v)):∃ x,ks[i]? = some x∧k = Sum.inr x:=by
  have:(kvs.map (·.1))[i]? = some k:=by rw [List.getElem?_map,e];rfl
  rw [h,List.getElem?_map] at this
  cases q:ks[i]? with
  | none=>rw [q] at this;cases this
  | some x=>rw [q] at this;exact ⟨x,rfl,(Option.some.inj this).symm⟩
theorem keysS.length {kvs:List (Key×V)} {ks:List Str} (h:keysS kvs ks):kvs.length = ks.length:=by
  have:=congrArg List.length h
  simpa using this
theorem dict_src {pins:List (Addr×Obj)} {σ:St} {H:Hp} {s:Shared} {a:Addr} {kvs:List (Key×V)} (I:Inv X pins σ H s) (h:Rd H a (.dK kvs)) :
    kvs.length≤sizeLine∧∃ vs ep,KV kvs vs∧s.heap.DictAt (mixKind X.prog X.w) a vs ep∧PySem.W.KdlSrc X.prog X.w "dict" a a vs.length (fun i v=>∃ k x,vs[i]? = some (k,x)∧(mixKind X.prog X.w).is k v = true) (fun h=>h.DictAt (mixKind X.prog X.w) a vs ep):=by
  obtain ⟨z,m,vs,rel,dd⟩:=dk_rd I.hok h
  obtain ⟨ep,da⟩:=dd.dictAt
  exact ⟨z,vs,ep,rel,da,PySem.W.kdl_dict m⟩
theorem call_sortedD:CallR X (.builtin "sorted") (fun xs H Q=>X.calm = true∧∃ (a:Addr) (kvs:List (Key×V)) (ks:List Str),xs = [.ref a]∧Rd H a (.dK kvs)∧keysS kvs ks∧ks.length < 64∧∀ p,H p = none→Q (.ref p) (upd H p (.lst ((sortS ks).map V.str)))):=by
  rintro pins s σ H xs us Q I r ⟨hc,a,kvs,ks,rfl,hr,hk,h64,q⟩
  obtain ⟨u,rfl,ru⟩:=vals1 r
  cases ru
  obtain ⟨z,vs,ep,rel,da,src⟩:=dict_src I hr
  have hl:=Paired.length rel
  refine sorted_by I h64 (fun R hR=>collect_src src (I.ok.hd hc) da (by omega) fun h' tk us hk' hlen hP=>hR h' tk us hk' ?_) q
  refine walked_strs (by have:=hk.length;omega) fun i v e=>?_
  obtain ⟨k,x,e1,e2⟩:=hP i v e
  have hi:i < kvs.length:=by rw [hl];exact (List.getElem?_eq_some_iff.mp e1).1
  obtain ⟨⟨k',v'⟩,e3⟩:∃ p,kvs[i]? = some p:=⟨kvs[i],by simp [hi]⟩
  obtain ⟨u',e4,_⟩:=KV.get rel e3
  rw [e1] at e4
  cases e4
  obtain ⟨y,e5,rfl⟩:=hk.get e3
  refine ⟨y,e5,?_⟩
  rcases keyIs_shape (show keyIs (Sum.inr y) v = true from e2) with ⟨i,t,q1,q2⟩ | ⟨y',t,q1,q2⟩
  · cases q1
  · cases q1;exact ⟨t,q2⟩
theorem call_listD:CallR X (.type "list") (fun xs H Q=>X.calm = true∧∃ (a:Addr) (kvs:List (Key×V)),xs = [.ref a]∧Rd H a (.dK kvs)∧∀ p,H p = none→Q (.ref p) (upd H p (.lst (kvs.map fun e=>kV e.1)))):=by
  rintro pins s σ H xs us Q I r ⟨hc,a,kvs,rfl,hr,q⟩
  obtain ⟨u,rfl,ru⟩:=vals1 r
  cases ru
  obtain ⟨z,vs,ep,rel,da,src⟩:=dict_src I hr
  have hl:=Paired.length rel
  refine PySem.W.kdl_call src (I.ok.hd hc) da (by omega) fun h' tk acc c hk hS hacc=>?_
  have hn:H s.heap.objs.size = none:=I.hok.fresh (Nat.le_refl _)
  refine ⟨.ref s.heap.objs.size,_,?_,rfl,q _ hn⟩
  refine I.laid (t':=tk) hk (Nat.le_refl _) ⟨by rw [List.length_map];exact z,acc.toList,c,?_,by rw [hS]⟩
  have hal:acc.toList.length = kvs.length:=by rw [Array.length_toList,hacc.1,hl]
  have key:∀ (i:Nat) (v:Value),acc.toList[i]? = some v→∃ k y,kvs[i]? = some (k,y)∧RelV (kV k) v:=fun i v e=>by
    obtain ⟨k,x,e1,e2⟩:=hacc.2 i v (by rw [← Array.getElem?_toList];exact e)
    have hi:i < kvs.length:=by rw [hl];exact (List.getElem?_eq_some_iff.mp e1).1
    obtain ⟨⟨k',v'⟩,e3⟩:∃ p,kvs[i]? = some p:=⟨kvs[i],by simp [hi]⟩
    obtain ⟨u',e4,_⟩:=KV.get rel e3
    rw [e1] at e4
    cases e4
    exact ⟨k,v',e3,kV_of e2⟩
  clear hS hacc src da rel hl
  revert hal key
  generalize acc.toList = l
  clear z q hr r
  induction kvs generalizing l with
  | nil =>
    intro hal _
    cases l with
    | nil=>exact .nil
    | cons _ _=>simp at hal
  | cons e kvs ih =>
    intro hal key
    cases l with
    | nil=>simp at hal
    | cons v l =>
      obtain ⟨k,y,e1,e2⟩:=key 0 v rfl
      simp at e1
      subst e1
      exact .cons e2 (ih _ (by simpa using hal) fun i u e=>by simpa using key (i + 1) u (by simpa using e))
end
end L2
namespace L2
open PySem PySem.Spec PyProof.Rows PySem.Builtin.Str
abbrev cs (x:Str):List Nat:=x.cps.toList
abbrev ofC (l:List Nat):Str:=⟨l.toArray⟩
theorem cs_ofC (l:List Nat):cs (ofC l) = l:=rfl
theorem ofC_cs (x:Str):ofC (cs x) = x:=by obtain ⟨x⟩:=x;simp [ofC,cs]
theorem cs_len (x:Str):(cs x).length = x.length:=by obtain ⟨x⟩:=x;rfl
theorem cs_append (x y:Str):cs (x ++ y) = cs x ++ cs y:=by
  obtain ⟨x⟩:=x;obtain ⟨y⟩:=y
  show (x ++ y).toList = x.toList ++ y.toList
  simp
def cutC {α:Type} (l:List α) (lo hi:Option Int):List α:=(l.drop (HT.sIx l.length 0 lo)).take (HT.sIx l.length l.length hi - HT.sIx l.length 0 lo)
def cutS (x:Str) (lo hi:Option Int):Str:=ofC (cutC (cs x) lo hi)
section
variable {X:Cx}
def joinS:Str→List Str→Str:=Txt.join
end
def Its (x:Str):It:=⟨fun i _=>i < x.length,fun i H v H'=>H' = H∧∃ c,(cs x)[i]? = some c∧v = .str ⟨#[c]⟩,fun i _=>x.length≤i⟩
def iStr (tl:TE):TI:=fun σ H R=>tl σ H fun v H1=>∃ x,v = .str x∧R (Its x) H1
section
variable {X:Cx} {tg:Expr}
end
end L2
namespace L2
open PySem PySem.Spec PyProof.Rows
theorem boot_isinstance':bootBuiltins "isinstance" = some (.builtin "isinstance"):=by decide +kernel
theorem boot_len':bootBuiltins "len" = some (.builtin "len"):=by decide +kernel
theorem boot_max':bootBuiltins "max" = some (.builtin "max"):=by decide +kernel
theorem boot_min':bootBuiltins "min" = some (.builtin "min"):=by decide +kernel
theorem boot_all':bootBuiltins "all" = some (.builtin "all"):=by decide +kernel
theorem boot_sum':bootBuiltins "sum" = some (.builtin "sum"):=by decide +kernel
theorem boot_ty_str:bootBuiltins "str" = some (.type "str"):=by decide +kernel
theorem boot_ty_list:bootBuiltins "list" = some (.type "list"):=by decide +kernel
theorem boot_ty_dict:bootBuiltins "dict" = some (.type "dict"):=by decide +kernel
structure Top (K:PySem.W.Frag) (mg:Str→Option Value) (nm:Str) (st:Stmt) (ps:List Str) (f:Addr) (fd:FuncData):Prop where
  fn:Fun K nm nm st f fd
  bd:Binds K fd ps []
  mg:mg nm = some (.ref f)
theorem Top.kp {K:PySem.W.Frag} {mg:Str→Option Value} {nm:Str} {st:Stmt} {ps:List Str} {f:Addr} {fd:FuncData} (T:Top K mg nm st ps f fd):PySem.W.keepIn K (.ref f) = true:=T.fn.kp
section
variable {X:Cx}
def tForV (te:TE) (g:TG) (tb:TS):TS:=fun D σ H=>te σ H fun x H1=>∃ a kvs,x = .ref a∧Rd H1 a (.dK kvs)∧∀ o H2,Fzn a o kvs H1 H2→LoopVC (Itv a o kvs) g tb (thawE a o kvs H1 D) σ H2
end
section
variable {X:Cx} {tg:Expr}
end
end L2
namespace L2
open PySem PySem.Spec PyProof.Rows
abbrev Row:=List (Str×Int)
def look (l:Row) (k:Str):Option Int:=(l.find? fun e=>decide (e.1 = k)).map (·.2)
def put (l:Row) (k:Str) (v:Int):Row:=if (l.any fun e=>decide (e.1 = k)) = true then l.map (fun e=>if e.1 = k then (e.1,v) else e) else l ++ [(k,v)]
def encI (l:Row):List (Key×V):=l.map fun e=>(Sum.inr e.1,.int e.2)
def rowD (l:Row):D:=.dct (l.map fun e=>(Sum.inr e.1,.int e.2))
theorem look_nil (k:Str):look [] k = none:=rfl
theorem look_cons (x:Str) (y:Int) (r:Row) (k:Str):look ((x,y) :: r) k = if x = k then some y else look r k:=by
  unfold look
  rw [List.find?_cons]
  by_cases h:x = k
  · rw [decide_eq_true h,if_pos h];rfl
  · rw [decide_eq_false h,if_neg h]
theorem any_look (l:Row) (k:Str):(l.any fun e=>decide (e.1 = k)) = (look l k).isSome:=by
  induction l with
  | nil=>rfl
  | cons e r ih =>
    obtain ⟨x,y⟩:=e
    rw [List.any_cons,look_cons,ih]
    by_cases h:x = k
    · simp [h]
    · simp [h]
theorem look_append (l l':Row) (k:Str):look (l ++ l') k = (look l k).or (look l' k):=by
  induction l with
  | nil=>simp [look_nil]
  | cons e r ih =>
    obtain ⟨x,y⟩:=e
    rw [List.cons_append,look_cons,look_cons,ih]
    by_cases h:x = k
    · simp [h]
    · simp [h]
theorem look_repl (l:Row) (k:Str) (v:Int) (j:Str):look (l.map fun e=>if e.1 = k then (e.1,v) else e) j = if k = j then (look l k).map (fun _=>v) else look l j:=by
  induction l with
  | nil=>by_cases h:k = j <;> simp [look_nil,h]
  | cons e r ih =>
    obtain ⟨x,y⟩:=e
    by_cases h:x = k
    · subst h
      rw [List.map_cons,if_pos rfl,look_cons,look_cons,look_cons,ih]
      by_cases h2:x = j
      · simp [h2]
      · simp [h2]
    · rw [List.map_cons,if_neg h,look_cons,look_cons,look_cons,ih]
      by_cases h2:x = j
      · subst h2
        have:¬ k = x:=fun q=>h q.symm
        simp [h,this]
      · by_cases h3:k = j
        · simp [h2,h3,h]
        · simp [h2,h3,h]
theorem look_put (l:Row) (k:Str) (v:Int) (j:Str):look (put l k v) j = if k = j then some v else look l j:=by
  unfold put
  rw [any_look]
  cases h:look l k with
  | some w =>
    rw [if_pos (by simp),look_repl,h]
    rfl
  | none =>
    rw [if_neg (by simp),look_append,look_cons,look_nil]
    by_cases c:k = j
    · subst c;simp [h]
    · simp [c]
theorem put_keys_in {l:Row} {k:Str} {v:Int} (h:(look l k).isSome = true):(put l k v).map (·.1) = l.map (·.1):=by
  unfold put
  rw [any_look,if_pos h,List.map_map]
  apply List.map_congr_left
  intro e _
  show (if e.1 = k then (e.1,v) else e).1 = e.1
  by_cases c:e.1 = k <;> simp [c]
theorem put_keys_new {l:Row} {k:Str} {v:Int} (h:look l k = none):(put l k v).map (·.1) = l.map (·.1) ++ [k]:=by
  unfold put
  rw [any_look,h,if_neg (by simp),List.map_append]
  rfl
theorem look_mem {l:Row} {k:Str} {v:Int} (h:look l k = some v):(k,v)∈l:=by
  induction l with
  | nil=>cases h
  | cons e r ih =>
    obtain ⟨a,b⟩:=e
    rw [look_cons] at h
    by_cases c:a = k
    · rw [if_pos c] at h;cases h;subst c;exact List.mem_cons_self
    · rw [if_neg c] at h;exact List.mem_cons_of_mem _ (ih h)
theorem mem_look {l:Row} (nd:(l.map (·.1)).Nodup) {k:Str} {v:Int} (h:(k,v)∈l):look l k = some v:=by
  induction l with
  | nil=>simp at h
  | cons e r ih =>
    obtain ⟨a,b⟩:=e
    have nd':(a :: r.map (·.1)).Nodup:=nd
    obtain ⟨h1,h2⟩:=List.nodup_cons.mp nd'
    rw [look_cons]
    rcases List.mem_cons.mp h with q | q
    · cases q;rw [if_pos rfl]
    · rw [if_neg (fun (c:a = k)=>h1 (by rw [c];exact List.mem_map.mpr ⟨_,q,rfl⟩))];exact ih h2 q
theorem look_none {l:Row} {k:Str}:look l k = none ↔ k∉l.map (·.1):=by
  induction l with
  | nil=>simp [look_nil]
  | cons e r ih =>
    obtain ⟨a,b⟩:=e
    rw [look_cons]
    by_cases c:a = k
    · subst c;simp
    · rw [if_neg c,ih]
      have c':¬ k = a:=fun q=>c q.symm
      simp [c']
theorem look_some_iff {l:Row} {k:Str}:(∃ v,look l k = some v) ↔ k∈l.map (·.1):=by
  constructor
  · rintro ⟨v,h⟩;exact List.mem_map.mpr ⟨_,look_mem h,rfl⟩
  · intro h
    cases e:look l k with
    | none=>exact absurd h (look_none.mp e)
    | some v=>exact ⟨v,rfl⟩
theorem rows_len {l l':Row} (n:(l.map (·.1)).Nodup) (n':(l'.map (·.1)).Nodup) (h:∀ k,look l k = look l' k):l.length = l'.length:=by
  have p:(l.map (·.1)).Perm (l'.map (·.1)):=(List.perm_ext_iff_of_nodup n n').mpr fun k=>by
    rw [← look_some_iff,← look_some_iff,h]
  simpa using p.length_eq
theorem valV_enc (l:Row) (k:Str):valV (encI l) (Sum.inr k) = (look l k).map V.int:=by
  induction l with
  | nil=>rfl
  | cons e r ih =>
    obtain ⟨a,b⟩:=e
    show valV ((Sum.inr a,V.int b) :: encI r) (Sum.inr k) = _
    rw [look_cons]
    by_cases c:a = k
    · subst c;rw [valV_pos rfl,if_pos rfl];rfl
    · rw [valV_neg (fun q=>c (Sum.inr.inj q)),if_neg c];exact ih
theorem put_keys (l:Row) (k:Str) (v:Int) (x:Str):x∈(put l k v).map (·.1) ↔ x = k∨x∈l.map (·.1):=by
  rw [← look_some_iff,← look_some_iff,look_put]
  by_cases h:k = x
  · subst h;simp
  · have h':¬ x = k:=fun q=>h q.symm
    simp [h,h']
theorem put_nodup {l:Row} (k:Str) (v:Int) (h:(l.map (·.1)).Nodup):((put l k v).map (·.1)).Nodup:=by
  cases e:look l k with
  | some w=>rw [put_keys_in (by rw [e];rfl)];exact h
  | none=>rw [put_keys_new e];exact nd_snoc h (look_none.mp e)
theorem encI_put (l:Row) (k:Str) (v:Int):putK (encI l) (Sum.inr k) (.int v) = encI (put l k v):=by
  unfold putK put
  have e1:((encI l).any fun kv=>decide (kv.1 = (Sum.inr k:Key))) = l.any fun e=>decide (e.1 = k):=by
    unfold encI
    rw [List.any_map]
    congr 1
    funext e
    exact key_rr e.1 k
  rw [e1]
  split
  · unfold encI
    rw [List.map_map,List.map_map]
    apply List.map_congr_left
    intro e _
    show (if (Sum.inr e.1:Key) = Sum.inr k then ((Sum.inr e.1:Key),V.int v) else (Sum.inr e.1,V.int e.2)) = (Sum.inr (if e.1 = k then (e.1,v) else e).1,V.int (if e.1 = k then (e.1,v) else e).2)
    by_cases c:e.1 = k
    · simp [c]
    · simp [c]
  · unfold encI
    rw [List.map_append]
    rfl
theorem encI_len (l:Row):(encI l).length = l.length:=by simp [encI]
abbrev Outer:=List (Str×Addr)
def encO (bs:Outer):List (Key×V):=bs.map fun p=>(Sum.inr p.1,.ref p.2)
def addrOf (bs:Outer) (x:Str):Option Addr:=(bs.find? fun e=>decide (e.1 = x)).map (·.2)
theorem addrOf_cons (x:Str) (y:Addr) (r:Outer) (k:Str):addrOf ((x,y) :: r) k = if x = k then some y else addrOf r k:=by
  unfold addrOf
  rw [List.find?_cons]
  by_cases h:x = k
  · rw [decide_eq_true h,if_pos h];rfl
  · rw [decide_eq_false h,if_neg h]
theorem valV_encO (bs:Outer) (k:Str):valV (encO bs) (Sum.inr k) = (addrOf bs k).map V.ref:=by
  induction bs with
  | nil=>rfl
  | cons e r ih =>
    obtain ⟨a,b⟩:=e
    show valV ((Sum.inr a,V.ref b) :: encO r) (Sum.inr k) = _
    rw [addrOf_cons]
    by_cases c:a = k
    · subst c;rw [valV_pos rfl,if_pos rfl];rfl
    · rw [valV_neg (fun q=>c (Sum.inr.inj q)),if_neg c];exact ih
theorem addrOf_mem {bs:Outer} {x:Str} {b:Addr} (h:addrOf bs x = some b):(x,b)∈bs:=by
  induction bs with
  | nil=>cases h
  | cons e r ih =>
    obtain ⟨a,b'⟩:=e
    rw [addrOf_cons] at h
    by_cases c:a = x
    · rw [if_pos c] at h;cases h;subst c;exact List.mem_cons_self
    · rw [if_neg c] at h;exact List.mem_cons_of_mem _ (ih h)
theorem addrOf_none {bs:Outer} {x:Str}:addrOf bs x = none ↔ x∉bs.map (·.1):=by
  induction bs with
  | nil=>simp [addrOf]
  | cons e r ih =>
    obtain ⟨a,b⟩:=e
    rw [addrOf_cons]
    by_cases c:a = x
    · subst c;simp
    · rw [if_neg c,ih]
      have c':¬ x = a:=fun q=>c q.symm
      simp [c']
theorem addrOf_some {bs:Outer} {x:Str} (h:x∈bs.map (·.1)):∃ b,addrOf bs x = some b:=by
  cases e:addrOf bs x with
  | none=>exact absurd h (addrOf_none.mp e)
  | some b=>exact ⟨b,rfl⟩
structure NetR (H:Hp) (a:Addr) (bs:Outer) (f:Str→Row):Prop where
  out:Rd H a (.dK (encO bs))
  inn:∀ p∈bs,Rd H p.2 (.dK (encI (f p.1)))
  ks:(bs.map (·.1)).Nodup
structure NetAt (H:Hp) (a:Addr) (bs:Outer) (f:Str→Row):Prop where
  out:H a = some (.dK (encO bs))
  inn:∀ p∈bs,H p.2 = some (.dK (encI (f p.1)))
  ks:(bs.map (·.1)).Nodup
  nd:(a :: bs.map (·.2)).Nodup
theorem NetAt.r {H:Hp} {a:Addr} {bs:Outer} {f:Str→Row} (n:NetAt H a bs f):NetR H a bs f:=⟨.inl n.out,fun p hp=>.inl (n.inn p hp),n.ks⟩
theorem NetR.sm {H H':Hp} {a:Addr} {bs:Outer} {f:Str→Row} (n:NetR H a bs f) (s:Sm H H'):NetR H' a bs f:=⟨s.dK _ _ n.out,fun p hp=>s.dK _ _ (n.inn p hp),n.ks⟩
theorem NetAt.same {H H':Hp} {a:Addr} {bs:Outer} {f:Str→Row} (n:NetAt H a bs f) (s:Same H H'):NetAt H' a bs f:=⟨s _ _ n.out,fun p hp=>s _ _ (n.inn p hp),n.ks,n.nd⟩
theorem NetR.keys {H:Hp} {a:Addr} {bs:Outer} {f:Str→Row} (n:NetR H a bs f):keysS (encO bs) (bs.map (·.1)):=by
  unfold keysS encO;rw [List.map_map,List.map_map];rfl
theorem keysS_encI (l:Row):keysS (encI l) (l.map (·.1)):=by
  unfold keysS encI;rw [List.map_map,List.map_map];rfl
def netD (ks:List Str) (f:Str→Row):D:=.dct (ks.map fun x=>(Sum.inr x,rowD (f x)))
theorem RepD.rowI (K:PySem.W.Frag) (H:Hp):∀ l:Row,RepD K H (encI l) (l.map fun e=>(Sum.inr e.1,D.int e.2))
  | []=>.nil
  | (x,y) :: r=>.cons (.int y) (RepD.rowI K H r)
theorem NetR.rep {K:PySem.W.Frag} {H:Hp} {a:Addr} {bs:Outer} {f:Str→Row} (n:NetR H a bs f):Rep K H (.ref a) (netD (bs.map (·.1)) f):=by
  refine .dct n.out ?_
  have inn:=n.inn
  clear n
  induction bs with
  | nil=>exact .nil
  | cons p r ih=>exact .cons (.dct (inn p List.mem_cons_self) (RepD.rowI K H _)) (ih fun q hq=>inn q (List.mem_cons_of_mem _ hq))
theorem lookD_map (g:Str→D):∀ (ks:List Str) (x:Str),x∈ks→lookD (ks.map fun y=>(Sum.inr y,g y)) (Sum.inr x) = some (g x)
  | [],_,h=>by simp at h
  | k :: r,x,h=>by
    unfold lookD
    rw [List.map_cons,List.find?_cons]
    by_cases c:k = x
    · subst c;simp
    · rw [decide_eq_false (fun q=>c (Sum.inr.inj q))]
      exact lookD_map g r x ((List.mem_cons.mp h).resolve_left fun q=>c q.symm)
theorem lookD_row:∀ (l:Row) (x:Str),lookD (l.map fun e=>(Sum.inr e.1,D.int e.2)) (Sum.inr x) = (look l x).map D.int
  | [],_=>rfl
  | (a,b) :: r,x=>by
    have ih:=lookD_row r x
    unfold lookD at ih ⊢
    rw [List.map_cons,List.find?_cons,look_cons]
    by_cases c:a = x
    · subst c;simp
    · rw [if_neg c,decide_eq_false (fun q=>c (Sum.inr.inj q))];exact ih
theorem rowD_deq {l l':Row} (n:(l.map (·.1)).Nodup) (n':(l'.map (·.1)).Nodup) (h:∀ k,look l k = look l' k):DEq (rowD l) (rowD l'):=by
  refine .dct (fun k=>match k with | .inl _=>.non | .inr x=>.int ((look l' x).getD 0)) ?_ ?_ ?_
  · simpa using rows_len n n' h
  · intro k d hm
    obtain ⟨e,he,q⟩:=List.mem_map.mp hm
    cases q
    have hl:=mem_look n (k:=e.1) (v:=e.2) he
    have hl':=hl
    rw [h] at hl'
    rw [lookD_row,hl']
    show some (D.int e.2) = some (D.int ((look l' e.1).getD 0))
    rw [hl']
    rfl
  · intro k d hm
    obtain ⟨e,he,q⟩:=List.mem_map.mp hm
    cases q
    show DEq (.int e.2) (.int ((look l' e.1).getD 0))
    rw [← h,mem_look n (k:=e.1) (v:=e.2) he]
    exact .same rfl
theorem netD_deq {ks ks':List Str} {f f':Str→Row} (p:ks.Perm ks') (n:∀ x∈ks,((f x).map (·.1)).Nodup) (n':∀ x∈ks',((f' x).map (·.1)).Nodup) (h:∀ x∈ks,∀ k,look (f x) k = look (f' x) k):DEq (netD ks f) (netD ks' f'):=by
  refine .dct (fun k=>match k with | .inl _=>.non | .inr x=>rowD (f' x)) (by simpa using p.length_eq) ?_ ?_
  · intro k d hm
    obtain ⟨x,hx,q⟩:=List.mem_map.mp hm
    cases q
    exact lookD_map (fun y=>rowD (f' y)) ks' x (p.mem_iff.mp hx)
  · intro k d hm
    obtain ⟨x,hx,q⟩:=List.mem_map.mp hm
    cases q
    exact rowD_deq (n x hx) (n' x (p.mem_iff.mp hx)) (h x hx)
theorem depD_le {es:List (Key×D)} {m:Nat} (h:∀ k d,(k,d)∈es→d.dep≤m):D.depD es≤m:=by
  induction es with
  | nil=>exact Nat.zero_le _
  | cons e r ih =>
    obtain ⟨k,d⟩:=e
    simp only [D.depD]
    have:=h k d List.mem_cons_self
    have:=ih fun k d hm=>h k d (List.mem_cons_of_mem _ hm)
    omega
theorem netD_dep (ks:List Str) (f:Str→Row):(netD ks f).dep≤2:=by
  show D.depD _ + 1≤2
  refine Nat.succ_le_succ (depD_le fun k d hm=>?_)
  obtain ⟨x,hx,q⟩:=List.mem_map.mp hm
  cases q
  show D.depD _ + 1≤1
  refine Nat.succ_le_succ (depD_le fun k d hm=>?_)
  obtain ⟨e,he,q⟩:=List.mem_map.mp hm
  cases q
  exact Nat.zero_le _
end L2
namespace L2
open PySem PySem.Spec PyProof.Rows
theorem top_mk {K:PySem.W.Frag} {h:Heap} {mg:Str→Option Value} {nm:Str} {st:Stmt} {ps:List Str} {f:Addr} {oc:Value} {od an:Option Addr} {osl:Array (Option Value)} {kV doc pm cdv ct:Value} (X:K.In h) (G:h.Ns mainGlobals mg)
    (a:PySem.W.nsIn K mainGlobals nm = some (some (.ref f))) (l:K.lookup f = some ⟨oc,od,.func (PySem.W.fnOf nm nm (defArgs st) (defBody st) (defScope st) .none kV doc pm an cdv ct),osl⟩) (c:PySem.W.codeIn K cdv nm = true) (k:PySem.W.keepIn K (.ref f) = true)
    (hb:∀ (kV doc pm:Value) (an:Option Addr) (cdv ct:Value) (us:List Value),us.length = ps.length→bindArgs (PySem.W.fnOf nm nm (defArgs st) (defBody st) (defScope st) .none kV doc pm an cdv ct) ⟨us,[]⟩ = pure (ps.zip us)) :
    Top K mg nm st ps f (PySem.W.fnOf nm nm (defArgs st) (defBody st) (defScope st) .none kV doc pm an cdv ct) :=
  ⟨fun_mk (st:=st) l c k,(fun_mk (st:=st) l c k).binds hb,PySem.W.mg_of X G a⟩
end L2
namespace L2
open PySem PySem.Spec PyProof.Rows
theorem iteD {p A B:Prop} [Decidable p] (h1:p→A) (h2:¬ p→B):if decide p = true then A else B:=by
  by_cases h:p
  · rw [if_pos (decide_eq_true h)];exact h1 h
  · rw [if_neg (by simpa using h)];exact h2 h
theorem iteB {b:Bool} {A B:Prop} (h1:b = true→A) (h2:b = false→B):if b = true then A else B:=by
  cases b with
  | true=>rw [if_pos rfl];exact h1 rfl
  | false=>rw [if_neg (by simp)];exact h2 rfl
def NxC (n:Nat) (Pv:Nat→List V→Hp→Prop) (i:Nat) (ys:List V) (H:Hp):Prop:=∃ m',m' < n - i∧m' = n - (i + 1)∧i + 1≤n∧Pv (i + 1) ys H
theorem nxC {n:Nat} {Pv:Nat→List V→Hp→Prop} {i:Nat} {ys:List V} {H:Hp} (hlt:i < n) (p:Pv (i + 1) ys H):NxC n Pv i ys H:=⟨_,by omega,rfl,hlt,p⟩
theorem comp_inv {J:It} {g:TG} {tt:TT} {te:TE} {σ':St} {Post:VK} {H1:Hp} (n:Nat) (Pv:Nat→List V→Hp→Prop) (h0:Pv 0 [] H1) (hz:∀ i ys H,Pv i ys H→ys.length < sizeLine)
    (hgo:∀ i ys H,i < n→Pv i ys H→J.go i H∧∀ x H',J.yld i H x H'→g x σ' H' fun σ2 H2=>tt σ2 H2 fun b H3=>if b = true then te σ2 H3 fun y H4=>NxC n Pv i (ys ++ [y]) H4 else NxC n Pv i ys H3)
    (hs:∀ ys H,Pv n ys H→J.stop n H∧∀ p,H p = none→Post (.ref p) (upd H p (.lst ys))):CompVC J g tt te σ' Post H1:=by
  refine ⟨fun i m ys H=>m = n - i∧i≤n∧Pv i ys H,⟨n,rfl,Nat.zero_le _,h0⟩,?_⟩
  rintro i m ys H ⟨rfl,hi,p⟩
  refine ⟨hz i ys H p,?_⟩
  by_cases hlt:i < n
  · exact .inr (hgo i ys H hlt p)
  · have e:i = n:=by omega
    subst e
    exact .inl (hs ys H p)
theorem yesI {σ:St} {H:Hp} {A B:Hp→Prop} (h:A H):tYes σ H (fun b H3=>if b = true then A H3 else B H3):=by
  show if true = true then A H else B H
  rw [if_pos rfl];exact h
end L2
set_option maxHeartbeats 4000000
namespace L2
open PySem PySem.Spec PyProof.Rows
def isNm (x:Str):Prop:=1≤x.length∧x.length≤8∧∀ c∈cs x,97≤c∧c≤122
def lettersS:Str:="abcdefghijklmnopqrstuvwxyz"
theorem letters_cs:cs lettersS = (List.range 26).map (97 + ·):=by decide +kernel
theorem letter_at {j:Int} (h0:0≤j) (h1:j < 26):atI (cs lettersS) j = some (97 + j.toNat):=by
  obtain ⟨k,rfl⟩:=Int.eq_ofNat_of_zero_le h0
  refine atI_nat ?_
  rw [letters_cs,List.getElem?_map,List.getElem?_range (by omega)]
  simp
theorem sIx_of {n d:Nat} {i:Int} (h:0≤i):HT.sIx n d (some i) = min i.toNat n:=by
  obtain ⟨k,rfl⟩:=Int.eq_ofNat_of_zero_le h
  rw [HT.sIx_nat];simp
def Nms (at':Nat) (m:Int) (i:Nat) (ss:List Str):Prop:=ss.length = i∧ss.Nodup∧(∀ s∈ss,isNm s)∧∀ s∈ss,∃ j,j < i∧(cs s)[at']? = some (97 + ((m + (j:Int)) % 26).toNat)
structure GNet (ks:List Str) (f:Str→Row) (B:Int):Prop where
  sym:∀ x y,x∈ks→y∈ks→look (f x) y = look (f y) x
  irr:∀ x,x∈ks→look (f x) x = none
  val:∀ x y v,x∈ks→look (f x) y = some v→y∈ks∧1≤v∧v≤B
  nd:∀ x,x∈ks→((f x).map (·.1)).Nodup
theorem GNet.nil (ks:List Str) (B:Int):GNet ks (fun _=>[]) B:=⟨fun _ _ _ _=>rfl,fun _ _=>rfl,fun _ _ _ _ h=>(by cases h),fun _ _=>List.nodup_nil⟩
def putR (f:Str→Row) (x y:Str) (v:Int):Str→Row:=fun z=>if z = x then put (f x) y v else f z
theorem putR_at (f:Str→Row) (x y:Str) (v:Int):putR f x y v x = put (f x) y v:=by unfold putR;rw [if_pos rfl]
theorem putR_ne {f:Str→Row} {x y:Str} {v:Int} {z:Str} (h:z≠x):putR f x y v z = f z:=by unfold putR;rw [if_neg h]
def putB (f:Str→Row) (x y:Str) (v:Int):Str→Row:=putR (putR f x y v) y x v
theorem look_putB {f:Str→Row} {x y:Str} {v:Int} (h:x≠y) (a b:Str):look (putB f x y v a) b = if (a = x∧b = y)∨(a = y∧b = x) then some v else look (f a) b:=by
  unfold putB
  by_cases h1:a = y
  · subst h1
    rw [putR_at,look_put,putR_ne (Ne.symm h)]
    by_cases h2:x = b
    · subst h2;simp
    · have h2':¬ b = x:=fun q=>h2 q.symm
      have h3:¬ a = x:=fun q=>h q.symm
      simp [h2,h2',h3]
  · rw [putR_ne h1]
    by_cases h2:a = x
    · subst h2
      rw [putR_at,look_put]
      by_cases h3:y = b
      · subst h3;simp
      · have h3':¬ b = y:=fun q=>h3 q.symm
        simp [h3,h3',h1]
    · rw [putR_ne h2];simp [h1,h2]
theorem putB_nd {f:Str→Row} {x y:Str} {v:Int} {a:Str} (hx:((f x).map (·.1)).Nodup) (hy:((f y).map (·.1)).Nodup) (ha:((f a).map (·.1)).Nodup) (h:x≠y):((putB f x y v a).map (·.1)).Nodup:=by
  unfold putB
  by_cases h1:a = y
  · subst h1;rw [putR_at,putR_ne (Ne.symm h)];exact put_nodup _ _ hy
  · rw [putR_ne h1]
    by_cases h2:a = x
    · subst h2;rw [putR_at];exact put_nodup _ _ hx
    · rw [putR_ne h2];exact ha
theorem GNet.put {ks:List Str} {f:Str→Row} {B:Int} (g:GNet ks f B) {x y:Str} {v:Int} (hx:x∈ks) (hy:y∈ks) (h:x≠y) (h1:1≤v) (h2:v≤B):GNet ks (putB f x y v) B:=by
  refine ⟨fun a b ha hb=>?_,fun a ha=>?_,fun a b w ha hw=>?_,fun a ha=>putB_nd (g.nd x hx) (g.nd y hy) (g.nd a ha) h⟩
  · rw [look_putB h,look_putB h]
    by_cases c:(a = x∧b = y)∨(a = y∧b = x)
    · rw [if_pos c,if_pos (by rcases c with ⟨p,q⟩ | ⟨p,q⟩ <;> simp [p,q])]
    · rw [if_neg c,if_neg (by rintro (⟨p,q⟩ | ⟨p,q⟩) <;> exact c (by simp [p,q]))]
      exact g.sym a b ha hb
  · rw [look_putB h,if_neg (by rintro (⟨p,q⟩ | ⟨p,q⟩) <;> exact h (by rw [← p,← q]))]
    exact g.irr a ha
  · rw [look_putB h] at hw
    by_cases c:(a = x∧b = y)∨(a = y∧b = x)
    · rw [if_pos c] at hw
      cases hw
      refine ⟨?_,h1,h2⟩
      rcases c with ⟨p,q⟩ | ⟨p,q⟩
      · rw [q];exact hy
      · rw [q];exact hx
    · rw [if_neg c] at hw
      exact g.val a b w ha hw
abbrev Ln:=Str×Str×Int
def norm (l:Ln):Ln:=if sLt l.1 l.2.1 then l else (l.2.1,l.1,l.2.2)
def lineD (l:Ln):D:=.tup [.str l.1,.str l.2.1,.int l.2.2]
def rowL (f:Str→Row) (x:Str) (ys:List Str):List Ln:=(ys.filter fun y=>decide (sLt x y)).map fun y=>(x,y,(look (f x) y).getD 0)
def linesF (ks:List Str) (f:Str→Row):List Ln:=(sortS ks).flatMap fun x=>rowL f x (sortS ((f x).map (·.1)))
def Jn (ls:List Ln) (x y:Str) (s:Int):Prop:=(x,y,s)∈ls∨(y,x,s)∈ls
structure LinesOf (ks:List Str) (f:Str→Row) (B:Int) (ls:List Ln):Prop where
  perm:(ls.map norm).Perm (linesF ks f)
section
variable {ks:List Str} {f:Str→Row} {B:Int} {ls:List Ln}
def Apart (ls:List Ln):Prop:=∀ (i j:Nat) (l m:Ln),ls[i]? = some l→ls[j]? = some m→i < j→¬ ((l.1 = m.1∧l.2.1 = m.2.1)∨(l.1 = m.2.1∧l.2.1 = m.1))
end
structure MNet (ss:List Str) (ls:List Ln) (g:Str→Row):Prop where
  jn:∀ x y s,x∈ss→(look (g x) y = some s ↔ Jn ls x y s)
  nd:∀ x,x∈ss→((g x).map (·.1)).Nodup
end L2
namespace L2
open PySem PySem.Spec PyProof.Rows
theorem nd_len {α:Type} [DecidableEq α]:∀ {l m:List α},l.Nodup→(∀ x∈l,x∈m)→l.length≤m.length
  | [],_,_,_=>Nat.zero_le _
  | x :: r,m,h,s=>by
    obtain ⟨h1,h2⟩:=List.nodup_cons.mp h
    have hx:=s x List.mem_cons_self
    have:=nd_len (l:=r) (m:=m.erase x) h2 (fun y hy=>(List.mem_erase_of_ne (fun (e:y = x)=>h1 (by rw [← e];exact hy))).mpr (s y (List.mem_cons_of_mem _ hy)))
    rw [List.length_erase_of_mem hx] at this
    have:=List.length_pos_of_mem hx
    rw [List.length_cons]
    omega
theorem nd_inj {α β:Type} {g:α→β}:∀ {l:List α} {a b:α},(l.map g).Nodup→a∈l→b∈l→g a = g b→a = b
  | [],_,_,_,h,_,_=>by simp at h
  | x :: r,a,b,hn,ha,hb,e=>by
    rw [List.map_cons] at hn
    obtain ⟨h1,h2⟩:=List.nodup_cons.mp hn
    rcases List.mem_cons.mp ha with p | p <;> rcases List.mem_cons.mp hb with q | q
    · rw [p,q]
    · subst p;exact absurd (List.mem_map.mpr ⟨b,q,e.symm⟩) h1
    · subst q;exact absurd (List.mem_map.mpr ⟨a,p,e⟩) h1
    · exact nd_inj h2 p q e
section
variable {H H':Hp} {a:Addr} {bs:Outer} {f:Str→Row} {x y:Str} {b:Addr}
theorem mem_addrOf (hk:(bs.map (·.1)).Nodup) (h:(x,b)∈bs):addrOf bs x = some b:=by
  obtain ⟨c,hc⟩:=addrOf_some (List.mem_map.mpr ⟨_,h,rfl⟩)
  have:=nd_inj hk (addrOf_mem hc) h rfl
  rw [hc]
  exact congrArg some (congrArg Prod.snd this)
theorem NetR.dget (n:NetR H a bs f) (h:addrOf bs x = some b):DGet H a (.str x) (some (.ref b)):=.inl ⟨_,Sum.inr x,n.out,rfl,by rw [valV_encO,h];rfl⟩
theorem NetR.rget (n:NetR H a bs f) (h:addrOf bs x = some b):DGet H b (.str y) ((look (f x) y).map V.int):=.inl ⟨_,Sum.inr y,n.inn _ (addrOf_mem h),rfl,by rw [valV_enc]⟩
theorem NetR.rget' (n:NetR H a bs f) (h:addrOf bs x = some b) {v:Int} (e:look (f x) y = some v):DGet H b (.str y) (some (.int v)):=by have:=n.rget (y:=y) h;rw [e] at this;exact this
theorem NetAt.ne (n:NetAt H a bs f) (h:addrOf bs x = some b):b≠a:=fun e=>by
  have:=(List.nodup_cons.mp n.nd).1
  exact this (e ▸ List.mem_map.mpr ⟨_,addrOf_mem h,rfl⟩)
theorem NetAt.put (n:NetAt H a bs f) (h:addrOf bs x = some b) (v:Int) (y:Str) (hl:(f x).length < sizeLine):DPut H b (.str y) (.int v) (upd H b (.dK (encI (put (f x) y v))))∧NetAt (upd H b (.dK (encI (put (f x) y v)))) a bs (putR f x y v):=by
  have hb:=n.inn _ (addrOf_mem h)
  have p:=DPut.k (k:=Sum.inr y) (v:=.int v) hb (by rw [encI_len];exact hl)
  rw [encI_put] at p
  refine ⟨p,?_,fun q hq=>?_,n.ks,n.nd⟩
  · rw [upd_ne (n.ne h).symm];exact n.out
  · by_cases e:q.2 = b
    · have:q = (x,b):=nd_inj (List.nodup_cons.mp n.nd).2 hq (addrOf_mem h) e
      subst this
      rw [upd_same,putR_at]
    · rw [upd_ne e,putR_ne (fun z=>e ?_)]
      · exact n.inn q hq
      · have:q = (x,b):=nd_inj n.ks hq (addrOf_mem h) z
        rw [this]
theorem encO_put (h:x∉bs.map (·.1)):putK (encO bs) (Sum.inr x) (.ref b) = encO (bs ++ [(x,b)]):=by
  rw [putK_new]
  · unfold encO;rw [List.map_append];rfl
  · rw [valV_encO,addrOf_none.mpr h];rfl
theorem NetAt.add (n:NetAt H a bs f) (hx:x∉bs.map (·.1)) (hp:H b = none) (hl:bs.length < sizeLine) (hf:f x = []) :
    DPut (upd H b (.dK [])) a (.str x) (.ref b) (upd (upd H b (.dK [])) a (.dK (encO (bs ++ [(x,b)]))))∧NetAt (upd (upd H b (.dK [])) a (.dK (encO (bs ++ [(x,b)])))) a (bs ++ [(x,b)]) f:=by
  have ab:a≠b:=ne_of_none n.out hp
  have hn:∀ q∈bs,q.2≠b:=fun q hq=>ne_of_none (n.inn q hq) hp
  have p:=DPut.k (H:=upd H b (.dK [])) (k:=Sum.inr x) (v:=.ref b) (by rw [upd_ne ab];exact n.out) (by unfold encO;rw [List.length_map];exact hl)
  rw [encO_put hx] at p
  refine ⟨p,upd_same,fun q hq=>?_,?_,?_⟩
  · rcases List.mem_append.mp hq with c | c
    · have h1:q.2≠a:=fun e=>(List.nodup_cons.mp n.nd).1 (e ▸ List.mem_map.mpr ⟨_,c,rfl⟩)
      rw [upd_ne h1,upd_ne (hn q c)];exact n.inn q c
    · rw [List.mem_singleton.mp c]
      show upd _ _ _ b = some (.dK (encI (f x)))
      rw [upd_ne ab.symm,upd_same,hf];rfl
  · rw [List.map_append];exact nd_snoc n.ks hx
  · rw [List.map_append,← List.cons_append]
    refine nd_snoc n.nd (fun h=>?_)
    rcases List.mem_cons.mp h with e | e
    · exact ab e.symm
    · obtain ⟨q,hq,e⟩:=List.mem_map.mp e
      exact hn q hq e
end
def New (H:Hp) (a:Addr) (bs:Outer):Prop:=H a = none∧∀ p∈bs,H p.2 = none
theorem New.same {H H':Hp} {a:Addr} {bs:Outer} (n:New H' a bs) (s:Same H H'):New H a bs:=⟨s.free n.1,fun p hp=>s.free (n.2 p hp)⟩
theorem NetR.row {H:Hp} {a:Addr} {bs:Outer} {f:Str→Row} (n:NetR H a bs f) {x:Str} (hx:x∈bs.map (·.1)):∃ b,addrOf bs x = some b∧Rd H b (.dK (encI (f x))):=by
  obtain ⟨b,h⟩:=addrOf_some hx
  exact ⟨b,h,n.inn _ (addrOf_mem h)⟩
def LinesAt (K:PySem.W.Frag) (H:Hp) (p:Addr) (ls:List Ln):Prop:=∃ xs,H p = some (.lst xs)∧Reps K H xs (ls.map lineD)
theorem LinesAt.same {K:PySem.W.Frag} {H H':Hp} {p:Addr} {ls:List Ln} (h:LinesAt K H p ls) (s:Same H H'):LinesAt K H' p ls:=by
  obtain ⟨xs,a,b⟩:=h;exact ⟨xs,s _ _ a,b.sm s.sm⟩
theorem Reps.line {K:PySem.W.Frag} {H:Hp} {xs:List V} {ls:List Ln} {i:Nat} {v:V} (h:Reps K H xs (ls.map lineD)) (e:xs[i]? = some v):∃ l a,ls[i]? = some l∧v = .ref a∧SqT K H a [.str l.1,.str l.2.1,.int l.2.2]:=by
  obtain ⟨d,hd,r⟩:=h.get' e
  rw [List.getElem?_map] at hd
  cases q:ls[i]? with
  | none=>rw [q] at hd;cases hd
  | some l =>
    rw [q] at hd
    cases hd
    unfold lineD at r
    cases r with
    | tup h1 h2 =>
      cases h2 with
      | cons a t=>cases t with
        | cons b t=>cases t with
          | cons c t=>cases t;cases a;cases b;cases c;exact ⟨l,_,rfl,rfl,h1⟩
end L2
namespace L2
open PySem PySem.Spec PyProof.Rows
theorem sz {n:Nat} (h:n≤1000):n≤sizeLine:=Nat.le_of_lt (small1000 h)
theorem szl {n:Nat} (h:n≤1000):n < sizeLine:=small1000 h
theorem atI_ix {α β:Type} {g:α→β} {l:List α} {i:Int} (h0:0≤i) (h1:i < l.length):∃ x,x∈l∧l[i.toNat]? = some x∧atI (l.map g) i = some (g x):=by
  obtain ⟨k,rfl⟩:=Int.eq_ofNat_of_zero_le h0
  have hk:k < l.length:=by omega
  refine ⟨l[k],List.getElem_mem hk,by simp [hk],atI_nat (by simp [hk])⟩
theorem seqIx {n:Nat} {i:Int} (h0:0≤i) (h1:i < n):seqIndex? i n = some i.toNat:=by
  have:ixN n i = some i.toNat:=by unfold ixN;rw [if_pos h0,if_pos h1]
  exact (ixN_seq this).1
def NS (H:Hp) (p:Addr) (ks:List Str) (B:Int) (H2:Hp):Prop:=∃ bs f,Same H H2∧NetAt H2 p bs f∧bs.map (·.1) = ks∧New H p bs∧GNet ks f B
theorem Same.netput {H H2:Hp} {p b:Addr} {bs:Outer} {x:Str} {o:HO} (s:Same H H2) (n:New H p bs) (h:addrOf bs x = some b):Same H (L2.upd H2 b o):=s.upd (n.2 _ (addrOf_mem h))
theorem row_len {ks:List Str} {f:Str→Row} {B:Int} (g:GNet ks f B) {x:Str} (hx:x∈ks) (hk:ks.length≤1000):(f x).length < sizeLine:=by
  refine szl ?_
  have:((f x).map (·.1)).length≤ks.length:=nd_len (g.nd x hx) fun y hy=>by
    obtain ⟨v,hv⟩:=look_some_iff.mpr hy
    exact (g.val x y v hx hv).1
  rw [List.length_map] at this
  omega
end L2
namespace L2
open PySem PySem.Spec PyProof.Rows
def mixF (c k:Int):Int :=
  let n:=(c % 2147483647 + 7919 * k + 1) * 48271 % 2147483647
  let m:=(n * n + k) % 2147483629
  m * m % 2147483587
def isStr:D→Bool | .str _=>true | _=>false
theorem isiB_str (d:D):isiB d.ty "str" = isStr d:=by cases d <;> rfl
def nameD:D→Bool
  | .str x=>decide (1≤x.length) && decide (x.length≤8) && (cs x).all fun c=>decide (c∈cs lettersS)
  | _=>false
theorem str_len (x y:Str):(x ++ y).length = x.length + y.length:=by rw [← cs_len,cs_append,List.length_append,cs_len,cs_len]
theorem Reps.tups {K:PySem.W.Frag} {H H':Hp} (h:∀ a zs,SqT K H a zs→SqT K H' a zs):∀ {ls:List Ln} {xs:List V},Reps K H xs (ls.map lineD)→Reps K H' xs (ls.map lineD)
  | [],_,r=>by cases r;exact .nil
  | l :: ls,_,r=>by
    rw [List.map_cons] at r ⊢
    cases r with
    | cons a t =>
      refine .cons ?_ (Reps.tups h t)
      unfold lineD at a ⊢
      cases a with
      | tup h1 h2 =>
        cases h2 with
        | cons p1 t1=>cases t1 with
          | cons p2 t2=>cases t2 with
            | cons p3 t3=>cases t3;cases p1;cases p2;cases p3;exact .tup (h _ _ h1) (.cons (.str _) (.cons (.str _) (.cons (.int _) .nil)))
theorem LinesAt.snoc {K:PySem.W.Frag} {H:Hp} {p t:Addr} {xs:List V} {ls:List Ln} (h1:H p = some (.lst xs)) (h2:Reps K H xs (ls.map lineD)) (ht:H t = none) (l:Ln) :
    LinesAt K (upd (upd H t (.tup [.str l.1,.str l.2.1,.int l.2.2])) p (.lst (xs ++ [.ref t]))) p (ls ++ [l]):=by
  have tp:t≠p:=fun e=>by rw [e,h1] at ht;cases ht
  refine ⟨_,upd_same,?_⟩
  rw [List.map_append]
  refine Reps.append (Reps.tups (fun a zs q=>?_) h2) (.cons (.tup (.inl (.inl ?_)) (.cons (.str _) (.cons (.str _) (.cons (.int _) .nil)))) .nil)
  · rcases q with q | q
    · have ap:a≠p:=fun e=>by
        subst e
        rcases q with q | ⟨o,q⟩ <;> rw [h1] at q <;> cases q
      have at':a≠t:=fun e=>by
        subst e
        rcases q with q | ⟨o,q⟩ <;> rw [ht] at q <;> cases q
      rcases q with q | ⟨o,q⟩
      · exact .inl (.inl (by rw [upd_ne ap,upd_ne at'];exact q))
      · exact .inl (.inr ⟨o,by rw [upd_ne ap,upd_ne at'];exact q⟩)
    · exact .inr q
  · rw [upd_ne tp,upd_same]
def hasD (kvs:List (Key×V)):D→Bool | .str x=>(valV kvs (Sum.inr x)).isSome | _=>false
def seenK (ss:List Str):List (Key×V):=ss.map fun s=>(Sum.inr s,.bl true)
theorem nodup_take {α:Type} {l:List α} {i:Nat} {x:α} (h:l.Nodup) (e:l[i]? = some x):x∉l.take i:=fun hm=>by
  obtain ⟨j,hj⟩:=List.getElem?_of_mem hm
  rw [List.getElem?_take] at hj
  split at hj
  · rename_i hji
    obtain ⟨h1,e1⟩:=List.getElem?_eq_some_iff.mp hj
    obtain ⟨h2,e2⟩:=List.getElem?_eq_some_iff.mp e
    exact List.pairwise_iff_getElem.mp h j i h1 h2 hji (e1.trans e2.symm)
  · cases hj
theorem forDm {o:Obj} {a:Addr} {kvs:List (Key×V)} {H1 H2:Hp} {g:TG} {tb:TS} {D:Ends} {σ:St} (hr:H1 a = some (.dK kvs)) (fz:Fzn a o kvs H1 H2) (Pv:Nat→St→Hp→Prop) (h0:H2 = upd H1 a (.frz o (.dK kvs))→Pv 0 σ H2)
    (hh:∀ i σ H,Pv i σ H→H a = some (.frz o (.dK kvs)))
    (hs:∀ i k v σ H,kvs[i]? = some (k,v)→Pv i σ H→g (kV k) σ H fun σ2 H2=>tb { nx:=Pv (i + 1),ct:=Pv (i + 1),bk:=(thawE a o kvs H1 D).nx,rt:=(thawE a o kvs H1 D).rt } σ2 H2)
    (hd:∀ σ H,Pv kvs.length σ H→D.nx σ (upd H a (.dK kvs))):LoopVC (Itd a o kvs) g tb (thawE a o kvs H1 D) σ H2:=by
  have e2:H2 = upd H1 a (.frz o (.dK kvs)):=by
    obtain ⟨h,e | ⟨_,e⟩⟩:=fz
    · rw [e,hr] at h;cases h
    · exact e
  refine ⟨fun i m σ H=>m = kvs.length - i∧i≤kvs.length∧Pv i σ H,⟨kvs.length,by simp,Nat.zero_le _,h0 e2⟩,?_⟩
  rintro i m σ H ⟨rfl,hi,p⟩
  by_cases hlt:i < kvs.length
  · refine .inr ⟨⟨hh _ _ _ p,hlt⟩,Pv (i + 1),fun σ' H' q=>⟨kvs.length - (i + 1),by omega,rfl,hlt,q⟩,?_⟩
    rintro x H' ⟨rfl,k,v,hx,rfl⟩
    exact hs i k v σ H' hx p
  · have e:i = kvs.length:=by omega
    subst e
    refine .inl ⟨⟨hh _ _ _ p,Nat.le_refl _⟩,hh _ _ _ p,fun H3 t=>?_⟩
    rcases t with ⟨_,rfl⟩ | ⟨c,_⟩
    · exact hd σ H p
    · exact absurd hr c
theorem deps_map {α:Type} {g:α→D} {m:Nat} (h:∀ a,(g a).dep≤m):∀ l:List α,D.deps (l.map g)≤m
  | []=>Nat.zero_le _
  | a :: r=>by
    rw [List.map_cons]
    have:=h a
    have:=deps_map h r
    simp only [D.deps]
    omega
def strengthD:D→Bool | .int i=>decide (1≤i) && decide (i≤1000000000) | _=>false
def NS0 (H:Hp) (p:Addr) (ks:List Str) (g:Str→L2.Row) (H2:Hp):Prop:=∃ bs,Same H H2∧NetAt H2 p bs g∧bs.map (·.1) = ks∧New H p bs
end L2
namespace L2
open PySem PySem.Spec PyProof.Rows
section
variable {X:Cx}
abbrev TF:=St→Hp→Str→VK→Prop
def PF (X:Cx) (es:List Expr) (t:TF):Prop :=
  ∀ (pins:List (Addr×Obj)) (s:Shared) (σ:St) (H:Hp) (out:Str) (Q:VK),Inv X pins σ H s→t σ H out Q→wpAny (model X.prog X.w) X.A (joinParts out (evalEach es X.env)) (EP X pins σ Q) X.xe s
def fNil:TF:=fun _ H out Q=>out.length≤sizeLine∧Q (.str out) H
def fTxt (x:Str) (r:TF):TF:=fun σ H out Q=>(out ++ x).length≤sizeLine∧r σ H (out ++ x) Q
def fmtV (v:V) (z:Str):Prop:=(∃ y,v = .str y∧z = y∧y.length≤sizeLine)∨∃ i:Int,v = .int i∧z = toString i∧i.natAbs.log2 < 1920
def fVal (te:TE) (r:TF):TF:=fun σ H out Q=>te σ H fun v H1=>∃ z,fmtV v z∧(out ++ z).length≤sizeLine∧r σ H1 (out ++ z) Q
end
def Itrv (K:PySem.W.Frag) (a:Addr) (xs:List V):It :=
  ⟨fun i H=>SqL K H a xs∧i < xs.length,fun i H x H'=>H' = H∧xs[xs.length - 1 - i]? = some x,fun i H=>SqL K H a xs∧i = xs.length⟩
theorem turn_rev {P:Program} {w:World} {K:PySem.W.Frag} {tg:Expr} (a it:Addr) (xs:List V):Turn P w K tg (Itrv K a xs) [it] it (fun i h=>h.IsRevIter it a ((xs.length:Int) - 1 - i)) where
  mem:=by simp
  obj:=fun i h st b hb=>by
    have e:b = it:=by simpa using hb
    subst e
    obtain ⟨o,e,c,d⟩:=st
    exact ⟨o,e,fun v z=>by rw [d] at z;cases z⟩
  keep:=fun i h h' st k=>st.at fun o e=>k it (by simp) o e
  item:=by
    intro X hP hw hK hc i pins s σ H E I hf st hg
    subst hP hw hK
    obtain ⟨hq,hi⟩:=hg
    obtain ⟨its,rv,p,hz⟩:=I.list hq
    obtain ⟨x,hx⟩:∃ x,xs[xs.length - 1 - i]? = some x:=⟨_,List.getElem?_eq_getElem (by omega)⟩
    obtain ⟨u,hu,ru⟩:=rv.get hx
    obtain ⟨f0,f1,f2,f3,f4,f5⟩:=hf it (by simp)
    have e:(xs.length:Int) - 1 - (i:Int) = ((xs.length - 1 - i:Nat):Int):=by omega
    rw [e] at st
    refine wpAny_pyNext_rev_item st p.isList (x:=u) (by simpa using hu) fun h' st' sb=>?_
    have I1:Inv X pins σ H { s with heap:=h' }:=I.turned (t':=s.toks) (fun b o hb e=>(sb.2 b hb).trans e) f0 f1 f3 f4 f5
    obtain ⟨o,e',c,d⟩:=id st'
    refine ⟨u,rfl,go_of (s:={ s with heap:=h' }) e' c d (by decide) ⟨x,H,I1,ru,⟨rfl,hx⟩,?_,fun b hb=>(hf b hb).1⟩⟩
    have e2:((xs.length - 1 - i:Nat):Int) - 1 = (xs.length:Int) - 1 - ((i + 1:Nat):Int):=by omega
    rw [e2] at st'
    exact st'
  done:=by
    intro X hP hw hK hc i pins s σ H E I hf st hg
    subst hP hw hK
    obtain ⟨hq,hi⟩:=hg
    obtain ⟨f0,f1,f2,f3,f4,f5⟩:=hf it (by simp)
    have e:(xs.length:Int) - 1 - (i:Int) = -1:=by omega
    rw [e] at st
    exact wpAny_pyNext_rev_end (I.ok.hd hc) st fun h' eb=>⟨rfl,I.turned (t':=s.toks) (fun b o hb e=>eb b o hb e) f0 f1 f3 f4 f5⟩
  self:=fun _ _ _ _ _ st h=>wpAny_pyIter_revIter st h
theorem boot_ty_reversed:bootBuiltins "reversed" = some (.type "reversed"):=by decide +kernel
def iRev (K:PySem.W.Frag) (ta:TA):TI:=fun σ H R=>ta σ H fun vs H1=>∃ a xs,vs = [.ref a]∧SqL K H1 a xs∧R (Itrv K a xs) H1
section
variable {X:Cx} {tg:Expr}
theorem pi_revL {a:Expr} {ta:TA} {p pos:Pos} (hg:Gl X "reversed") (hm:X.mg "reversed" = none) (ha:PA X [a] ta) (hs:starEach [a] X.env = [(false,eval a X.env)]:=by rfl):PI X tg (.Call (.Name "reversed" p) [a] [] pos) (iRev X.K ta):=by
  intro pins s σ H R I h
  refine Call_ (ld_blt I hg hm boot_ty_reversed (PyProof.Rows.callWith_type1 (thn (ha pos pins s σ H _ I h) fun us s1 ⟨vs,H1,I1,r1,q1⟩=>?_) hs rfl))
  obtain ⟨l,xs,e,hq,q⟩:=q1
  subst e
  obtain ⟨u,rfl,ru⟩:=vals1 r1
  cases ru
  obtain ⟨its,rv,pl,hz⟩:=I1.list hq
  have hl:=rv.length
  refine call_reversed_list pl.isList ?_
  have st:(s1.heap.push (revObj l ((its.toArray.size:Int) - 1))).IsRevIter s1.heap.objs.size l ((its.toArray.size:Int) - 1):=⟨_,Heap.get?_push_size _ rfl,rfl,rfl⟩
  refine wpAny_pyIter_revIter (s:={ s1 with heap:=s1.heap.push (revObj l ((its.toArray.size:Int) - 1)) }) st ?_
  refine ⟨s1.heap.objs.size,[s1.heap.objs.size],_,_,H1,rfl,I1.kept (t':=s1.toks) fun b o e=>Heap.get?_push_of_some _ e,turn_rev l _ xs,?_,fun b hb=>?_,q⟩
  · have e:(its.toArray.size:Int) - 1 = (xs.length:Int) - 1 - ((0:Nat):Int):=by rw [List.size_toArray,← hl];omega
    rw [e] at st ⊢
    exact st
  · have e:b = s1.heap.objs.size:=by simpa using hb
    subst e
    exact I1.fpOk (Nat.le_refl _) (I1.hok.fresh (Nat.le_refl _))
end
theorem for_rev {K:PySem.W.Frag} {a:Addr} {xs:List V} {g:TG} {tb:TS} {D:Ends} {σ:St} {H:Hp} (Pv:Nat→St→Hp→Prop) (h0:Pv 0 σ H) (hl:∀ i σ H,i≤xs.length→Pv i σ H→SqL K H a xs)
    (hs:∀ i x σ H,xs.reverse[i]? = some x→Pv i σ H→g x σ H fun σ2 H2=>tb (D.loop (Pv (i + 1))) σ2 H2) (hd:∀ σ H,Pv xs.length σ H→D.nx σ H) :
    ∃ W:Nat→Nat→St→Hp→Prop,(∃ m,W 0 m σ H)∧∀ i m σ H,W i m σ H →
      ((Itrv K a xs).stop i H∧D.nx σ H)∨((Itrv K a xs).go i H∧∃ N:St→Hp→Prop,(∀ σ' H',N σ' H'→∃ m',m' < m∧W (i + 1) m' σ' H')∧∀ x H',(Itrv K a xs).yld i H x H'→g x σ H' fun σ2 H2=>tb (D.loop N) σ2 H2):=by
  refine ⟨fun i m σ H=>m = xs.length - i∧i≤xs.length∧Pv i σ H,⟨xs.length,by simp,Nat.zero_le _,h0⟩,?_⟩
  rintro i m σ H ⟨rfl,hi,p⟩
  have q:=hl i σ H hi p
  by_cases hlt:i < xs.length
  · refine .inr ⟨⟨q,hlt⟩,Pv (i + 1),fun σ' H' p'=>⟨xs.length - (i + 1),by omega,rfl,hlt,p'⟩,fun x H' y=>?_⟩
    obtain ⟨rfl,y⟩:=y
    exact hs i x σ _ (by rw [List.getElem?_reverse hlt];exact y) p
  · have e:i = xs.length:=by omega
    subst e
    exact .inl ⟨⟨q,rfl⟩,hd σ H p⟩
end L2
namespace L2
open PySem PySem.Spec PyProof.Rows
def splitL (c:Nat):List Nat→List (List Nat)
  | []=>[[]]
  | d :: r=>if d = c then [] :: splitL c r else match splitL c r with | []=>[[d]] | p :: ps=>(d :: p) :: ps
def joinL (c:Nat):List (List Nat)→List Nat
  | []=>[]
  | [p]=>p
  | p :: q :: r=>p ++ c :: joinL c (q :: r)
theorem cs_inj {x y:Str} (h:cs x = cs y):x = y:=Str.ext' h
abbrev numS (v:Int):Str:=toString v
abbrev c1 (c:Nat):Str:=⟨#[c]⟩
def endS (f:Str→Row) (x y:Str):Str:=" " ++ y ++ " " ++ numS ((look (f x) y).getD 0)
def ysOf (f:Str→Row) (x:Str):List Str:=(sortS ((f x).map (·.1))).filter fun y=>decide (sLt x y)
def tailS (f:Str→Row) (x:Str):Str:=joinS "," ((ysOf f x).map (endS f x))
def rowS (f:Str→Row) (x:Str):Str:=x ++ ":" ++ tailS f x
def netS (ks:List Str) (f:Str→Row):Str:=joinS "\n" ((sortS ks).map (rowS f))
section
variable {ks:List Str} {f:Str→Row} {B:Int}
end
end L2
namespace L2
open PySem PySem.Spec PyProof.Rows
def figS:Str:="0123456789"
def wrD:D→Bool
  | .str x=>decide (1≤x.length) && decide (x.length≤10) && ((cs x).all fun c=>decide (c∈cs figS)) && (decide (x = "0") || !decide ((cs x).head? = some 48))
  | _=>false
structure GT (ks:List Str) (f:Str→Row):Prop where
  g:GNet ks f 1000000000
  nm:∀ x∈ks,isNm x
  len:ks.length≤12
  nd:ks.Nodup
section
variable {ks:List Str} {f:Str→Row}
end
end L2
namespace L2
open PySem PySem.Spec PyProof.Rows
theorem nd_rev {α:Type} {l:List α} (h:l.Nodup):l.reverse.Nodup:=(List.reverse_perm l).nodup_iff.mpr h
theorem put_new {l:Row} {k:Str} {v:Int} (h:look l k = none):put l k v = l ++ [(k,v)]:=by
  unfold put
  rw [any_look,h,if_neg (by simp)]
theorem encO_keys (bs:Outer):(encO bs).map (fun e=>kV e.1) = (bs.map (·.1)).map V.str:=by unfold encO;rw [List.map_map,List.map_map];rfl
theorem encI_keys (l:Row):(encI l).map (fun e=>kV e.1) = (l.map (·.1)).map V.str:=by unfold encI;rw [List.map_map,List.map_map];rfl
end L2
namespace L2
open PySem PySem.Spec PyProof.Rows
structure Lft (fs:List Addr) (x:Addr) (oe:Obj) (vs:Array Value) (h h':Heap) (T:Addr):Prop where
  keep:∀ b o,b∉fs→b≠x→vs[1]?≠some (.ref b)→h.get? b = some o→h'.get? b = some o
  slot:∀ b o,b∈fs→h.get? b = some o→∃ sl,h'.get? b = some { o with slots:=sl }
  there:∀ b o,h.get? b = some o→∃ o',h'.get? b = some o'
  rc:∃ (vs':Array Value) (oT:Obj) (ts:Array Value),h'.get? x = some { oe with data:=.fields vs' }∧vs'[1]? = some (.ref T)∧h'.get? T = some oT∧oT.data = .fields ts∧ts[3]? = some .none
  new:h.objs.size≤T
section
variable {M:Model} {A:Around} {E:Value→Shared→Prop} {s:Shared}
end
end L2
namespace L2
open PySem PySem.Spec PyProof.Rows
abbrev bmV:List Value:=[.type "ValueError",.type "Exception",.type "BaseException",.type "object"]
structure XCls (K:PySem.W.Frag) (C D:Addr) (fI:Addr):Prop where
  obj:∃ nm q N bs sn sub ab col dd k0 k1 k2 k3 k5,K.lookup C = some (excClassObj nm q C N bs (.ref D :: bmV) true sn sub ab col dd k0 k1 k2 k3 k5 "ValueError.__new__")
  tl:∀ h:Heap,K.In h→OwnTail h bmV (.ref D :: bmV)
  ini:PySem.W.findIn K (.ref C) "__init__" = some (some (.ref fI))
  sa:PySem.W.findIn K (.ref C) "__setattr__" = some (some (.builtin "object.__setattr__"))
  fn:PySem.W.isFn K (.ref fI) = true
  kp:PySem.W.keepIn K (.ref C) = true
section
variable {prog:Program} {w:World} {A:Around} {E:Value→Shared→Prop} {h:Heap} {g:Array GenState} {d:Drawn} {t:Nat} {os:OsState}
variable {nm q:Str} {C N D fI:Addr} {bs:List Value} {sn:List Str} {sub:List Value} {ab:Bool} {col:Option Bool} {dd:Option Addr} {k0 k1 k2 k3 k5:Option Value}
def StoX (h h':Heap) (x C:Addr) (mA:Str→Option Value) (name:Str) (v:Value):Prop:=h'.Inst x C (fun y=>if y = name then some v else mA y)∧(∀ b o,b≠x→(∀ o₀ dx,h.get? x = some o₀→o₀.dict = some dx→b≠dx)→h.get? b = some o→h'.get? b = some o) ∧
  ∀ o₀,h.get? x = some o₀→∃ dx,h'.get? x = some { o₀ with dict:=some dx }∧((o₀.dict = some dx)∨(o₀.dict = none∧dx = h.objs.size))
end
end L2
namespace L2
open PySem PySem.Spec PyProof.Rows
def ExcAt (x C:Addr) (od:Option Addr):Heap→Prop:=fun h=>∃ vs,h.get? x = some ({ cls:=.ref C,dict:=od,data:=.fields vs }:Obj)
def XdAt (dx:Addr) (fs:List (Str×V)):Heap→Prop:=fun h=>∃ mA,h.Ns1 dx mA∧(∀ f,RelO (fs.lookup f) (mA f))∧PySem.Within mA (fs.map (·.1))
def Trc (n:Nat) (H:Hp) (x:Addr) (h:Heap):Prop:=∃ oe vs,h.get? x = some oe∧oe.data = .fields vs∧(vs[1]? = some Value.none∨∃ T oT ts,vs[1]? = some (.ref T)∧T≠x∧n≤T∧H T = none∧h.get? T = some oT∧oT.data = .fields ts∧ts[3]? = some Value.none)
def CXe (P:Program) (w:World):CXT:=fun outer H s E e s'=>∃ (x C:Addr) (od:Option Addr) (H':Hp),e = .ref x∧s'.os = s.os∧AllBare s'.gens∧Un (frs outer) [] H H' s.heap s'.heap∧HOk P w H' s'.heap ∧
  H' x = some (.ext (ExcAt x C od))∧s.heap.objs.size≤x∧Trc s.heap.objs.size H' x s'.heap∧E (.ref x) od H'
section
variable {P:Program} {w:World} {K:PySem.W.Frag} {mg:Str→Option Value} {base:Heap} {N:List Str} {qual:Str} {scope:Scope} {f:Addr} {cd:Value} {A:Around} {outer:List Env} {s₀ s:Shared} {H₀ H:Hp} {E:XK} {pins:List (Addr×Obj)} {σ:St}
end
end L2
namespace L2
open PySem PySem.Spec PyProof.Rows
def ExcNew (x C:Addr) (od:Option Addr):Heap→Prop:=fun h=>∃ t:Addr,h.get? x = some ({ cls:=.ref C,dict:=od,data:=.fields #[.ref t,.none,.none,.none,.bool false,.none] }:Obj)
section
variable {X:Cx} {pins:List (Addr×Obj)} {σ:St} {H:Hp} {s:Shared} {A:Around} {E:Value→Shared→Prop} {x C D dx:Addr} {fI:Addr} {f:Str}
end
def sXset (K:PySem.W.Frag) (ta tv:TE) (f:Str):TS:=fun Dn σ H=>tv σ H fun y H1=>ta σ H1 fun v H2=>∃ x C D fI od,v = .ref x∧XCls K C D fI∧NoAttr K C f∧H2 x = some (.ext (ExcNew x C od)) ∧
  ((od = none∧∀ dx,H2 dx = none→dx≠x→Dn.nx σ (upd (upd H2 dx (.ext (XdAt dx [(f,y)]))) x (.ext (ExcNew x C (some dx))))) ∨
   ∃ dx fs,od = some dx∧H2 dx = some (.ext (XdAt dx fs))∧dx≠x∧fs.length≤100∧Dn.nx σ (upd H2 dx (.ext (XdAt dx (putF f y fs)))))
section
variable {X:Cx} {o value:Expr} {f:Str} {pos pos':Pos} {ta tv:TE}
end
end L2
namespace L2
open PySem PySem.Spec PyProof.Rows
section
variable {X:Cx} {k:Nat} {C D fI:Addr} {fd:FuncData} {ps:List Str} {sp:Sp}
end
def tRaise (C:Addr) (sp:Sp) (E:XK) (ta:TA):TS:=fun _ σ H=>ta σ H fun vs H1=>vs.length≤100∧∀ x,H1 x = none→sp (.ref x :: vs) (upd H1 x (.ext (ExcNew x C none))) (fun v H2=>v = .non∧∃ od,H2 x = some (.ext (ExcNew x C od))∧E (.ref x) od (upd H2 x (.ext (ExcAt x C od)))) E0
section
variable {P:Program} {w:World} {K:PySem.W.Frag} {mg:Str→Option Value} {base:Heap} {N:List Str} {qual:Str} {scope:Scope} {f:Addr} {cd:Value} {A:Around} {outer:List Env} {s₀:Shared} {H₀:Hp} {E:XK} {k:Nat} {C D fI:Addr} {fd:FuncData} {ps:List Str} {sp:Sp}
end
end L2
namespace L2
open PySem PySem.Spec PyProof.Rows
section
variable {M:Model} {A:Around} {E:Value→Shared→Prop} {s:Shared}
end
def Ent (x T:Addr) (h:Heap):Prop:=∃ oe vs oT ts,h.get? x = some oe∧oe.data = .fields vs∧vs[1]? = some (.ref T)∧h.get? T = some oT∧oT.data = .fields ts∧ts[3]? = some Value.none
section
variable {X:Cx} {pins:List (Addr×Obj)} {σ:St} {H:Hp} {s:Shared} {A:Around} {E:Value→Shared→Prop} {x C T:Addr} {od:Option Addr}
end
end L2
namespace L2
open PySem PySem.Spec PyProof.Rows
def XMr (K:PySem.W.Frag) (C:Addr) (l:List Value):Prop:=∃ nm q N bs sn sub ab col dd k0 k1 k2 k3 k5,K.lookup C = some (excClassObj nm q C N bs l true sn sub ab col dd k0 k1 k2 k3 k5 "ValueError.__new__")
def Cx.hdl (X:Cx) (x:Addr):Cx:={ X with A:=X.A.mark (some (.ref x)),calm:=false,xe:=fun _ _=>False }
def Cx.quiet (X:Cx):Cx:={ X with xe:=fun _ _=>False }
section
variable {X:Cx} {pins:List (Addr×Obj)} {σ:St} {H:Hp} {s:Shared} {A:Around} {E:Value→Shared→Prop} {x C T:Addr} {od:Option Addr}
end
abbrev TH:=Ends→St→Hp→Addr→Addr→Option Addr→Prop
def PH (X:Cx) (hs:List ExceptHandler) (t:TH):Prop:=∀ (pins:List (Addr×Obj)) (s:Shared) (σ:St) (H:Hp) (D:Ends) (x C:Addr) (od:Option Addr) (T:Addr),Inv X pins σ H s→H x = some (.ext (ExcAt x C od))→FpOk X pins H T→Ent x T s.heap→t D σ H x C od →
  wpAny (model X.prog X.w) X.A (handleBy (.ref x) X.env hs) (SP X pins D) X.xe s
def tHit (K:PySem.W.Frag) (C':Addr) (i:Nat) (ts:TS) (tr:TH):TH:=fun D σ H x C od=>∃ l,XMr K C l∧((Value.ref C :: l).contains (.ref C') = true→ts { nx:=fun σ' H'=>D.nx (σ'.set i none) H',rt:=D.rt,bk:=fun σ' H'=>D.bk (σ'.set i none) H',ct:=fun σ' H'=>D.ct (σ'.set i none) H' } (σ.set i (some (.ref x))) H) ∧
  ((Value.ref C :: l).contains (.ref C') = false→tr D σ H x C od)
def tMiss:TH:=fun _ _ _ _ _ _=>False
section
variable {X:Cx}
end
def tTryA (sp:Sp) (i:Nat) (ta:TA) (th:TH):TS:=fun D σ H=>ta σ H fun vs H1=>sp vs H1 (fun v H2=>D.nx (σ.set i (some v)) H2) (fun xv od H2=>∃ x C,xv = .ref x∧H2 x = some (.ext (ExcAt x C od))∧th D σ H2 x C od)
section
variable {X:Cx} {k:Nat} {f:Addr} {fd:FuncData} {ps:List Str} {sp:Sp}
end
end L2
namespace L2
open PySem PySem.Spec PyProof.Rows
section
variable {prog:Program} {w:World} {A:Around} {E:Value→Shared→Prop} {h:Heap} {g:Array GenState} {d:Drawn} {t:Nat} {os:OsState}
variable {nm q:Str} {C N x:Addr} {l bs:List Value} {sn:List Str} {sub:List Value} {ab:Bool} {col:Option Bool} {dd:Option Addr} {k0 k1 k2 k3 k5:Option Value} {K:PySem.W.Frag} {o:Obj}
end
end L2
namespace L2
open PySem PySem.Spec PyProof.Rows
structure XGet (K:PySem.W.Frag) (C:Addr) (l:List Value):Prop where
  mr:XMr K C l
  be:l.contains (.type "BaseException") = true
  ob:l.contains (.type "object") = true
  ga:PySem.W.findIn K (.ref C) "__getattribute__" = some (some (.builtin "BaseException.__getattribute__"))
  gt:PySem.W.findIn K (.ref C) "__getattr__" = some none
  cl:PySem.W.findIn K (.ref C) "__class__" = some (some (.builtin "object.__class__"))
section
variable {X:Cx} {pins:List (Addr×Obj)} {σ:St} {H:Hp} {s:Shared} {A:Around} {E:Value→Shared→Prop} {x C dx:Addr} {l:List Value} {f:Str}
end
def tXget (K:PySem.W.Frag) (ta:TE) (f:Str):TE:=fun σ H Q=>ta σ H fun v H1=>∃ x C l dx fs y,v = .ref x∧XGet K C l∧NoAttr K C f∧H1 x = some (.ext (ExcAt x C (some dx)))∧H1 dx = some (.ext (XdAt dx fs))∧dx≠x∧fs.lookup f = some y∧Q y H1
section
variable {X:Cx} {e:Expr} {f:Str} {pos:Pos} {ta:TE}
end
end L2
namespace L2
open PySem PySem.Spec PyProof.Rows
structure XTop (K:PySem.W.Frag) (mg:Str→Option Value) (nm qual:Str) (st:Stmt) (ps:List Str) (C D fI:Addr) (fd:FuncData):Prop where
  cls:XCls K C D fI
  get:XGet K C (.ref D :: bmV)
  mg:mg nm = some (.ref C)
  fn:Fun K "__init__" qual st fI fd
  bd:Binds K fd ps []
end L2
namespace L2
open PySem PySem.Spec PyProof.Rows PySem.SeqAt
open AutoSeq1 (wpAny_loadPart')
section
variable {M:Model} {A:Around} {E:Value→Shared→Prop} {s:Shared}
end
def neI (d:D) (n:Int):Bool:=match d with
  | .int i=>!(i == n)
  | .bl b=>!((if b then 1 else 0) == n)
  | _=>true
section
variable {X:Cx}
end
end L2
namespace L2
open PySem PySem.Spec PyProof.Rows
section
variable {X:Cx}
end
def outS (lo hi:Nat) (x:Str):List Nat:=(cs x).filter fun c=>!(decide (lo≤c) && decide (c≤hi))
def outV (lo hi:Nat) (x:Str) (i:Nat):List V:=(((cs x).take i).filter fun c=>!(decide (lo≤c) && decide (c≤hi))).map fun c=>V.str ⟨#[c]⟩
def readN (x:Str):Int:=((NumText.digitsVal x.cps.toList:Nat):Int)
end L2
namespace L2
open PySem PySem.Spec PyProof.Rows
def joinF (g:Str→Row) (l:Ln):Str→Row:=putB g l.1 l.2.1 ((look (g l.1) l.2.1).getD 0 + l.2.2)
def joinsF (g:Str→Row) (ls:List Ln):Str→Row:=ls.foldl joinF g
def Ends2 (ss:List Str) (ls:List Ln):Prop:=∀ l∈ls,l.1∈ss∧l.2.1∈ss∧l.1≠l.2.1
structure RowsIn (ss:List Str) (g:Str→Row):Prop where
  nd:∀ x∈ss,((g x).map (·.1)).Nodup
  inn:∀ x∈ss,∀ y∈(g x).map (·.1),y∈ss
theorem RowsIn.len {ss:List Str} {g:Str→Row} (h:RowsIn ss g) {x:Str} (hx:x∈ss):(g x).length≤ss.length:=by
  have:=nd_len (h.nd x hx) (h.inn x hx)
  rwa [List.length_map] at this
def EqN (ss:List Str) (g g':Str→Row):Prop:=∀ x∈ss,∀ y,look (g x) y = look (g' x) y
def GN (ks:List Str) (f:Str→Row):Prop:=∃ B:Int,0≤B∧GNet ks f B
abbrev Pr:=Str×Str
def cutB (ps:List Pr) (x y:Str):Bool:=ps.any fun p=>decide ((p.1 = x∧p.2 = y)∨(p.1 = y∧p.2 = x))
def badP (ks:List Str) (f:Str→Row) (p:Pr):Bool:=!(decide (p.1∈ks) && (look (f p.1) p.2).isSome)
def dropRow (l:Row) (y:Str):Row:=l.filter fun e=>decide (e.1≠y)
def dropR (f:Str→Row) (x y:Str):Str→Row:=fun z=>if z = x then dropRow (f x) y else f z
def cutF (f:Str→Row) (p:Pr):Str→Row:=dropR (dropR f p.1 p.2) p.2 p.1
def cutsF (f:Str→Row) (ps:List Pr):Str→Row:=ps.foldl cutF f
def keepL (ps:List Pr) (l:Ln):Bool:=!cutB ps l.1 l.2.1
def pairD (p:Pr):D:=.tup [.str p.1,.str p.2]
end L2
namespace L2
open PySem PySem.Spec PyProof.Rows
end L2
namespace L2
open PySem PySem.Spec PyProof.Rows
theorem NetAt.add2 {H:Hp} {a b:Addr} {bs:Outer} {f:Str→Row} {x:Str} (n:NetAt H a bs f) (hx:x∉bs.map (·.1)) (hp:H b = none) (hl:bs.length < sizeLine) :
    DPut (upd H b (.dK (encI (f x)))) a (.str x) (.ref b) (upd (upd H b (.dK (encI (f x)))) a (.dK (encO (bs ++ [(x,b)]))))∧NetAt (upd (upd H b (.dK (encI (f x)))) a (.dK (encO (bs ++ [(x,b)])))) a (bs ++ [(x,b)]) f:=by
  have ab:a≠b:=ne_of_none n.out hp
  have hn:∀ q∈bs,q.2≠b:=fun q hq=>ne_of_none (n.inn q hq) hp
  have p:=DPut.k (H:=upd H b (.dK (encI (f x)))) (k:=Sum.inr x) (v:=.ref b) (by rw [upd_ne ab];exact n.out) (by unfold encO;rw [List.length_map];exact hl)
  rw [encO_put hx] at p
  refine ⟨p,upd_same,fun q hq=>?_,?_,?_⟩
  · rcases List.mem_append.mp hq with c | c
    · have h1:q.2≠a:=fun e=>(List.nodup_cons.mp n.nd).1 (e ▸ List.mem_map.mpr ⟨_,c,rfl⟩)
      rw [upd_ne h1,upd_ne (hn q c)];exact n.inn q c
    · rw [List.mem_singleton.mp c]
      show upd _ _ _ b = some (.dK (encI (f x)))
      rw [upd_ne ab.symm,upd_same]
  · rw [List.map_append];exact nd_snoc n.ks hx
  · rw [List.map_append,← List.cons_append]
    refine nd_snoc n.nd (fun h=>?_)
    rcases List.mem_cons.mp h with e | e
    · exact ab e.symm
    · obtain ⟨q,hq,e⟩:=List.mem_map.mp e
      exact hn q hq e
theorem NetAt.updo {H:Hp} {p a:Addr} {cs:Outer} {f:Str→Row} {o:HO} (n:NetAt H p cs f) (h1:p≠a) (h2:∀ z∈cs,z.2≠a):NetAt (upd H a o) p cs f :=
  ⟨by rw [upd_ne h1];exact n.out,fun z hz=>by rw [upd_ne (h2 z hz)];exact n.inn z hz,n.ks,n.nd⟩
def PairsAt (K:PySem.W.Frag) (H:Hp) (p:Addr) (ps:List Pr):Prop:=∃ xs,H p = some (.lst xs)∧Reps K H xs (ps.map pairD)
end L2
namespace L2
open PySem PySem.Spec PyProof.Rows
end L2
namespace L2
open PySem PySem.Spec PyProof.Rows
def ResV (H H':Hp) (ks:List Str) (g:Str→Row) (o:Option Pr) (v:V):Prop:=match o with
  | none=>∃ p,v = .ref p∧NS0 H p ks g H'
  | some pr=>∃ p,v = .ref p∧H p = none∧H' p = some (.tup [.str pr.1,.str pr.2])
def Twin (K:PySem.W.Frag) (H0 H:Hp) (v u:V):Prop:=∃ p q d d',v = .ref p∧u = .ref q∧Rep K H v d∧Rep K H u d'∧DEq d d'∧d.dep≤8 ∧
  (isiB d.ty "dict" = false∨(isiB d.ty "dict" = true∧∃ cs g,NetAt H p cs g∧New H0 p cs))
end L2
namespace L2
open PySem PySem.Spec PyProof.Rows PySem.SeqAt
section
variable {P:Program} {w:World} {κ:Type} [DecidableEq κ] {kd:KeyKind P w κ} {A:Around} {E:Value→Shared→Prop} {s:Shared}
end
section
variable {X:Cx}
theorem call_dictOf:CallR X (.type "dict") (fun xs H Q=>∃ a kvs,xs = [.ref a]∧Rd H a (.dK kvs)∧∀ p,H p = none→Q (.ref p) (upd H p (.dK kvs))):=by
  rintro pins s σ H xs us Q I r ⟨a,kvs,rfl,hr,q⟩
  obtain ⟨u,rfl,ru⟩:=vals1 r
  cases ru
  exact d_copyOf I hr fun p s' hp I'=>⟨.ref p,_,I',rfl,q p hp⟩
variable {pins:List (Addr×Obj)} {σ:St} {H:Hp} {s:Shared} {h':Heap}
end
def Ite (K:PySem.W.Frag) (a:Addr) (xs:List V):It :=
  ⟨fun i H=>SqL K H a xs∧i < xs.length,fun i H v H'=>∃ p x,H p = none∧v = .ref p∧xs[i]? = some x∧H' = upd H p (.tup [.int i,x]),fun i H=>SqL K H a xs∧i = xs.length⟩
def iEnum (K:PySem.W.Frag) (ta:TA):TI:=fun σ H R=>ta σ H fun vs H1=>∃ a xs,vs = [.ref a]∧H1 a = some (.lst xs)∧R (Ite K a xs) H1
section
variable {X:Cx}
end
end L2
namespace L2
open PySem PySem.Spec PyProof.Rows
section
variable {X:Cx} {o e f:Expr} {apos cpos:Pos} {td ty tx:TE}
theorem upd_self {H:Hp} {a:Addr} {o:HO} (h:H a = some o):upd H a o = H:=by
  funext b
  unfold upd
  split
  · rename_i c;rw [c,h]
  · rfl
def tDPopU (td ty tx:TE):TE:=fun σ H Q=>td σ H fun x H1=>∃ a,x = .ref a∧IsD H1 a∧ty σ H1 fun y H2=>tx σ H2 fun _ H3=>∃ kvs k,H3 a = some (.dK kvs)∧y = kV k∧∀ v,Q v (upd H3 a (.dK (dropK kvs k)))
end
end L2
namespace L2
open PySem PySem.Spec PyProof.Rows
end L2
namespace L2
open PySem PySem.Spec PyProof.Rows
theorem ix_tupK {X:Cx} {K:PySem.W.Frag} (hK:X.K = K):IxR X (rIxT K):=by subst hK;exact ix_tup
end L2
namespace L2
open PySem PySem.Spec PyProof.Rows
theorem seqIf {c:TT} {a b u:TS} {D:Ends} {σ:St} {H:Hp} (R:St→Hp→Prop) (hR:∀ σ H,R σ H→u D σ H) (h1:(∀ σ H,R σ H→u D σ H)→tIfS c a b (D.seq u) σ H):tSeq (tIfS c a b) u D σ H:=h1 hR
end L2
namespace L2
open PySem PySem.Spec PyProof.Rows
end L2
namespace L2
open PySem PySem.Spec PyProof.Rows
end L2
namespace L2
open PySem PySem.Spec PyProof.Rows PySem.SeqAt
section
variable {X:Cx} {pins:List (Addr×Obj)} {σ:St} {H:Hp} {s:Shared} {h':Heap}
theorem Inv.turnedL {t':Nat} {fp:List Addr} (I:Inv X pins σ H s) (k:∀ b o,b∉fp→s.heap.get? b = some o→h'.get? b = some o) (hf:∀ b∈fp,FpOk X pins H b):Inv X pins σ H { s with heap:=h',toks:=t' }:=by
  have nf:∀ b u,H b = some u→b∉fp:=fun b u q z=>by rw [(hf b z).1] at q;cases q
  have nl:X.env.locals∉fp:=fun z=>(hf _ z).2.1 rfl
  refine I.step (g':=s.gens) (d':=s.drawn) (ch:=fp) (fun b hb=>?_) (fun b o _ _ hc q _=>k b o hc q) (fun b o _ _ hc q _=>⟨o.slots,k b o hc q⟩) (fun _ _ _ _ n=>n)
    (fun b o hc q=>⟨o,k b o hc q⟩) (fun _ _ q=>q) (fun _ _ _ q=>q) (fun b ps q=>⟨#[],by rw [q];simp⟩) (fun m hm=>?_) (fun b u q=>?_) I.bare
  · obtain ⟨_,a1,_,a3,a4,a5⟩:=hf b hb
    exact ⟨a3,a1,a4,a5⟩
  · obtain ⟨o,es,ep,ho,r⟩:=hm
    exact ⟨o,es,ep,k _ o nl ho,r⟩
  · refine (I.hok b u q).stay (fun c v hc r=>k c v ?_ r) (fun _ q=>q) fun _ _ q=>q
    rcases hc with z | z
    · rw [z];exact nf b u q
    · exact nf c _ z
end
def Itz (K:PySem.W.Frag) (a b:Addr) (xs ys:List V):It :=
  ⟨fun i H=>SqL K H a xs∧SqL K H b ys∧i < min xs.length ys.length,fun i H v H'=>∃ p x y,H p = none∧v = .ref p∧xs[i]? = some x∧ys[i]? = some y∧H' = upd H p (.tup [x,y]),fun i H=>SqL K H a xs∧SqL K H b ys∧i = min xs.length ys.length⟩
theorem turn_zip {P:Program} {w:World} {K:PySem.W.Frag} {elts:List Expr} {x1} {tpos:Pos} (a b z TI TO i1 i2:Addr) (xs ys:List V) (D:ZipApart z TI TO i1 i2 a b) :
    Turn P w K (.Tuple elts x1 tpos) (Itz K a b xs ys) [z,TI,TO,i1,i2] z (fun i h=>IsZip h z TI TO .none∧IsPair h TI (.ref i1) (.ref i2)∧(∃ u v,IsPair h TO u v)∧h.IsListIter i1 a i∧h.IsListIter i2 b i) where
  mem:=by simp
  obj:=fun i h st c hc=>by
    obtain ⟨hz,hT,⟨u,v,hO⟩,⟨o1,e1,c1,d1⟩,⟨o2,e2,c2,d2⟩⟩:=st
    simp only [List.mem_cons,List.not_mem_nil,or_false] at hc
    rcases hc with rfl | rfl | rfl | rfl | rfl
    · exact ⟨_,hz,fun v z=>by cases z⟩
    · exact ⟨_,hT,fun v z=>by cases z⟩
    · exact ⟨_,hO,fun v z=>by cases z⟩
    · exact ⟨o1,e1,fun v z=>by rw [d1] at z;cases z⟩
    · exact ⟨o2,e2,fun v z=>by rw [d2] at z;cases z⟩
  keep:=fun i h h' st k=>by
    obtain ⟨hz,hT,⟨u,v,hO⟩,h1,h2⟩:=st
    exact ⟨k z (by simp) _ hz,k TI (by simp) _ hT,⟨u,v,k TO (by simp) _ hO⟩,h1.at fun o q=>k i1 (by simp) o q,h2.at fun o q=>k i2 (by simp) o q⟩
  item:=by
    intro X hP hw hK hc i pins s σ H E I hf st hg
    subst hP hw hK
    obtain ⟨hq1,hq2,hi⟩:=hg
    obtain ⟨hz,hT,⟨u0,v0,hO⟩,h1,h2⟩:=st
    obtain ⟨its,rv,p,_⟩:=I.list hq1
    obtain ⟨its2,rv2,p2,_⟩:=I.list hq2
    obtain ⟨x,hx⟩:∃ x,xs[i]? = some x:=⟨_,List.getElem?_eq_getElem (by omega)⟩
    obtain ⟨y,hy⟩:∃ y,ys[i]? = some y:=⟨_,List.getElem?_eq_getElem (by omega)⟩
    obtain ⟨u,hu,ru⟩:=rv.get hx
    obtain ⟨v,hv,rv'⟩:=rv2.get hy
    have lts:∀ c∈[z,TI,TO,i1,i2],c < s.heap.objs.size:=fun c hc=>by
      simp only [List.mem_cons,List.not_mem_nil,or_false] at hc
      rcases hc with rfl | rfl | rfl | rfl | rfl
      · exact Heap.lt_size hz
      · exact Heap.lt_size hT
      · exact Heap.lt_size hO
      · obtain ⟨o,e,_⟩:=h1;exact Heap.lt_size e
      · obtain ⟨o,e,_⟩:=h2;exact Heap.lt_size e
    have hN:H s.heap.objs.size = none:=I.hok.fresh (Nat.le_refl _)
    refine wpAny_pyNext_zip_item D hz hT hO h1 h2 p.isList p2.isList (x:=u) (y:=v) (by simpa using hu) (by simpa using hv) fun h₁ hz₁ hO₁ h1₁ h2₁ hp₁ hsz₁ hk₁=>⟨_,rfl,?_⟩
    refine wpAny_letOwnedTupleGo_zip hz₁ fun h₂ hz₂ hs₂=>?_
    replace hs₂:Heap.SameBut z h₁ h₂:=hs₂
    have I1:Inv X pins σ (upd H s.heap.objs.size (.tup [x,y])) { s with heap:=s.heap.push { cls:=.type "tuple",data:=.seq #[u,v] },toks:=s.toks } :=
      I.laid (t':=s.toks) (fun b o q=>Heap.get?_push_of_some _ q) (Nat.le_refl _) ⟨by show 2≤sizeLine;decide,[u,v],.cons ru (.cons rv' .nil),⟨_,Heap.get?_push_size _ rfl,rfl,_,rfl⟩⟩
    have nf:∀ c∈[z,TI,TO,i1,i2],FpOk X pins (upd H s.heap.objs.size (.tup [x,y])) c:=fun c hc=>⟨by rw [upd_ne (Nat.ne_of_lt (lts c hc))];exact (hf c hc).1,(hf c hc).2⟩
    have I2:Inv X pins σ (upd H s.heap.objs.size (.tup [x,y])) { s with heap:=h₂,toks:=s.toks }:=I1.turnedL (t':=s.toks) (fun b o hb q=>by
      simp only [List.mem_cons,List.not_mem_nil,or_false,not_or] at hb
      rw [hs₂.2 b hb.1]
      rcases Heap.get?_push_cases q with ⟨z1,z2⟩ | z
      · rw [z1,z2];exact hp₁
      · exact hk₁ b o hb.1 hb.2.2.1 hb.2.2.2.1 hb.2.2.2.2 z) nf
    have hT₁:=hk₁ TI _ D.TIz D.TITO D.TIi1 D.TIi2 hT
    refine ⟨.ref s.heap.objs.size,_,I2,rfl,⟨_,x,y,hN,rfl,hx,hy,rfl⟩,⟨hz₂,(hs₂.2 _ D.TIz).trans hT₁,⟨u,v,(hs₂.2 _ D.TOz).trans hO₁⟩,h1₁.extBut hs₂.extBut D.i1z,h2₁.extBut hs₂.extBut D.i2z⟩,fun c hc=>(nf c hc).1⟩
  done:=by
    intro X hP hw hK hc i pins s σ H E I hf st hg
    subst hP hw hK
    obtain ⟨hq1,hq2,hi⟩:=hg
    obtain ⟨hz,hT,⟨u0,v0,hO⟩,h1,h2⟩:=st
    obtain ⟨its,rv,p,_⟩:=I.list hq1
    obtain ⟨its2,rv2,p2,_⟩:=I.list hq2
    have l1:=rv.length
    have l2:=rv2.length
    refine wpAny_pyNext_zip_end (I.ok.hd hc) D hz hT hO h1 h2 p.isList p2.isList ?_ fun h' hk=>⟨rfl,I.turnedL (t':=s.toks) (fun c o hb q=>?_) hf⟩
    · rcases Nat.le_total xs.length ys.length with q | q
      · exact .inl (by simp;omega)
      · exact .inr (by simp;omega)
    · simp only [List.mem_cons,List.not_mem_nil,or_false,not_or] at hb
      exact hk c o hb.1 hb.2.2.1 hb.2.2.2.1 hb.2.2.2.2 q
  self:=fun _ _ _ _ _ st h=>wpAny_pyIter_zip st.1 h
theorem boot_ty_zip:bootBuiltins "zip" = some (.type "zip"):=by decide +kernel
def iZip (K:PySem.W.Frag) (ta:TA):TI:=fun σ H R=>ta σ H fun vs H1=>∃ a b xs ys,vs = [.ref a,.ref b]∧SqL K H1 a xs∧SqL K H1 b ys∧R (Itz K a b xs ys) H1
theorem zip_apart {n l1 l2:Nat} (b1:l1 < n) (b2:l2 < n):ZipApart (n + 4) (n + 2) (n + 3) n (n + 1) l1 l2:=by
  constructor <;> (show ¬ (@Eq Nat _ _)) <;> omega
section
variable {X:Cx}
theorem pi_zip {a b:Expr} {ta:TA} {p pos:Pos} {elts:List Expr} {x1} {tpos:Pos} (hg:Gl X "zip") (hm:X.mg "zip" = none) (ha:PA X [a,b] ta) (hs:starEach [a,b] X.env = (false,eval a X.env) :: starEach [b] X.env:=by rfl) (hs2:(backTo pos (starEach [b] X.env)).any (·.1) = false:=by rfl) :
    PI X (.Tuple elts x1 tpos) (.Call (.Name "zip" p) [a,b] [] pos) (iZip X.K ta):=by
  intro pins s σ H R I h
  refine Call_ (ld_blt I hg hm boot_ty_zip (PyProof.Rows.callWith_type1 (thn (ha pos pins s σ H _ I h) fun us s1 ⟨vs,H1,I1,r1,q1⟩=>?_) hs hs2))
  obtain ⟨l1,l2,xs,ys,e,hq1,hq2,q⟩:=q1
  subst e
  cases r1 with
  | cons ru1 r2 =>
  cases r2 with
  | cons ru2 r3 =>
  cases r3
  cases ru1
  cases ru2
  obtain ⟨its,rv,pl,_⟩:=I1.list hq1
  obtain ⟨its2,rv2,pl2,_⟩:=I1.list hq2
  have b1:l1 < s1.heap.objs.size:=by obtain ⟨o,ho,_⟩:=pl.isList;exact Heap.lt_size ho
  have b2:l2 < s1.heap.objs.size:=by obtain ⟨o,ho,_⟩:=pl2.isList;exact Heap.lt_size ho
  refine call_zip_2 pl.isList pl2.isList fun h' hz hT hO h1 h2 hsz hk=>?_
  refine wpAny_pyIter_zip (s:={ s1 with heap:=h' }) hz ?_
  have I2:Inv X pins σ H1 { s1 with heap:=h',toks:=s1.toks }:=I1.kept (t':=s1.toks) fun b o e=>hk b o e
  generalize hn:s1.heap.objs.size = n at *
  have D:ZipApart (n + 4) (n + 2) (n + 3) n (n + 1) l1 l2:=zip_apart b1 b2
  refine ⟨n + 4,[n + 4,n + 2,n + 3,n,n + 1],_,_,H1,rfl,I2,turn_zip l1 l2 _ _ _ _ _ xs ys D,⟨hz,hT,⟨_,_,hO⟩,h1,h2⟩,fun c hc=>?_,q⟩
  have hc':n≤c:=by
    simp only [List.mem_cons,List.not_mem_nil,or_false] at hc
    rcases hc with rfl | rfl | rfl | rfl | rfl
    · exact Nat.le_add_right _ _
    · exact Nat.le_add_right _ _
    · exact Nat.le_add_right _ _
    · exact Nat.le_refl _
    · exact Nat.le_add_right _ _
  exact I1.fpOk (by rw [hn];exact hc') (I1.hok.fresh (by rw [hn];exact hc'))
end
theorem for_zip {K:PySem.W.Frag} {a b:Addr} {xs ys:List V} {g:TG} {tb:TS} {D:Ends} {σ:St} {H:Hp} (Pv:Nat→St→Hp→Prop) (h0:Pv 0 σ H) (hl:∀ i σ H,i≤min xs.length ys.length→Pv i σ H→SqL K H a xs∧SqL K H b ys)
    (hs:∀ i x y p σ H,xs[i]? = some x→ys[i]? = some y→Pv i σ H→H p = none→g (.ref p) σ (upd H p (.tup [x,y])) fun σ2 H2=>tb (D.loop (Pv (i + 1))) σ2 H2) (hd:∀ σ H,Pv (min xs.length ys.length) σ H→D.nx σ H) :
    ∃ W:Nat→Nat→St→Hp→Prop,(∃ m,W 0 m σ H)∧∀ i m σ H,W i m σ H →
      ((Itz K a b xs ys).stop i H∧D.nx σ H)∨((Itz K a b xs ys).go i H∧∃ N:St→Hp→Prop,(∀ σ' H',N σ' H'→∃ m',m' < m∧W (i + 1) m' σ' H')∧∀ x H',(Itz K a b xs ys).yld i H x H'→g x σ H' fun σ2 H2=>tb (D.loop N) σ2 H2):=by
  refine ⟨fun i m σ H=>m = min xs.length ys.length - i∧i≤min xs.length ys.length∧Pv i σ H,⟨min xs.length ys.length,by simp,Nat.zero_le _,h0⟩,?_⟩
  rintro i m σ H ⟨rfl,hi,p⟩
  have q:=hl i σ H hi p
  by_cases hlt:i < min xs.length ys.length
  · refine .inr ⟨⟨q.1,q.2,hlt⟩,Pv (i + 1),fun σ' H' p'=>⟨min xs.length ys.length - (i + 1),by omega,rfl,hlt,p'⟩,fun v H' y=>?_⟩
    obtain ⟨pp,x,y,h1,rfl,h2,h3,rfl⟩:=y
    exact hs i x y pp σ H h2 h3 p h1
  · have:i = min xs.length ys.length:=by omega
    subst this
    exact .inl ⟨⟨q.1,q.2,rfl⟩,hd σ H p⟩
section
variable {X:Cx}
def rIns0:V→List V→Hp→VK→Prop:=fun x vs H Q=>∃ l xs y,x = .ref l∧vs = [.int 0,y]∧H l = some (.lst xs)∧xs.length < sizeLine∧Q .non (upd H l (.lst (y :: xs)))
theorem mt_insert0:MtM X "list.insert" rIns0:=by
  intro pins s σ H x vs v us Q I rx rv h
  obtain ⟨l,xs,y,rfl,rfl,hH,hz,q⟩:=h
  cases rx
  cases rv with
  | cons r0 rv1 =>
  cases rv1 with
  | cons r1 rv2 =>
  cases rv2
  obtain ⟨t,rfl⟩:=r0
  obtain ⟨z,its,n,r,hl,e⟩:=I.lstM hH
  refine call_meets F.slot_list_insert ⟨_,e,rfl⟩ F.entry_list_insert (F.args_list_insert_3 _ _ _) (PySem.AutoListH.list_insert_list_int_val_1 l its.toArray n 0 t _ (by decide) (by rw [List.size_toArray];omega)) ⟨e,?_⟩
  refine ⟨.non,_,I.lset (its':=_ :: its) hH e (by simp) (.cons r1 r) ?_,rfl,q⟩
  rw [List.length_cons]
  omega
theorem ints_items:∀ {ns:List Int} {us:List Value},Vals (ns.map V.int) us→∃ xs:List (Int×Tok),us = xs.map (fun p=>Value.int p.1 p.2)∧xs.map (·.1) = ns
  | [],_,r=>by cases r;exact ⟨[],rfl,rfl⟩
  | n :: ns,_,r=>by
    cases r with
    | cons r1 r2 =>
      obtain ⟨xs,h1,h2⟩:=ints_items r2
      obtain ⟨t,rfl⟩:=r1
      exact ⟨(n,t) :: xs,by rw [h1];rfl,by rw [← h2];rfl⟩
theorem call_minL (hc:X.calm = true):CallR X (.builtin "min") (fun vs H Q=>∃ a ns,vs = [.ref a]∧SqL X.K H a (ns.map V.int)∧ns≠[]∧∀ m,m∈ns→(∀ n∈ns,m≤n)→Q (.int m) H):=by
  rintro pins s σ H vs us Q I r ⟨a,ns,rfl,hr,hne,q⟩
  obtain ⟨u,rfl,ru⟩:=vals1 r
  cases ru
  obtain ⟨its,rv,pl,hz⟩:=I.list hr
  obtain ⟨xs,rfl,hxs⟩:=ints_items rv
  have hit:(xs.map (fun p=>Value.int p.1 p.2)).toArray = intItems xs.toArray:=by simp [intItems]
  have hl:=pl.isList
  rw [hit] at hl
  have hsz:0 < xs.toArray.size:=by
    rw [List.size_toArray]
    cases xs with
    | nil=>exact absurd hxs.symm hne
    | cons _ _=>simp
  have num:∀ i,i < xs.length→numAt xs.toArray i∈ns∧ns[i]? = some (numAt xs.toArray i):=fun i hi=>by
    have e:ns[i]? = some (numAt xs.toArray i):=by
      rw [← hxs,List.getElem?_map]
      unfold numAt
      simp [hi]
    exact ⟨List.mem_of_getElem? e,e⟩
  refine min_intList (I.ok.hd hc) hl hsz fun v h' tk hv hk=>?_
  obtain ⟨t,rfl⟩:=intItems_at hv
  obtain ⟨b1,b2⟩:=argBest_lt (numAt xs.toArray) (xs.toArray.size - 1)
  have hx:xs.toArray.size = xs.length:=List.size_toArray ..
  refine ⟨.int _,H,I.kept (t':=tk) hk,⟨t,rfl⟩,q _ (num _ (by omega)).1 fun n hn=>?_⟩
  obtain ⟨j,hj⟩:=List.getElem?_of_mem hn
  have hjl:j < xs.length:=by
    have:=(List.getElem?_eq_some_iff.mp hj).1
    rw [← hxs,List.length_map] at this;exact this
  have e:=(num j hjl).2
  rw [hj] at e
  rw [Option.some.inj e]
  exact b2 j (by omega)
theorem mt_copyD:MtR X "dict.copy" (fun x xs H Q=>∃ a kvs,x = .ref a∧xs = []∧Rd H a (.dK kvs)∧∀ p,H p = none→Q (.ref p) (upd H p (.dK kvs))):=by
  rintro pins s σ H x xs v us Q I rx rv ⟨a,kvs,rfl,rfl,hr,q⟩
  cases rx
  cases rv
  obtain ⟨z,hd,vs,rel,dd⟩:=dk_rd I.hok hr
  refine call_meetsIn PySem.F.slot_dict_copy dd.typeIs PySem.F.entry_dict_copy (PySem.F.args_dict_copy_1 _) (meets_dict_copy (mixKind X.prog X.w) a hd) ⟨vs,dd,by rw [← Paired.length rel];exact z,fun h' dd' _ hk=>?_⟩
  have hn:H s.heap.objs.size = none:=I.hok.fresh (Nat.le_refl _)
  refine ⟨.ref s.heap.objs.size,_,I.laid (a:=s.heap.objs.size) (o:=.dK kvs) (t':=s.toks) (fun b o e=>hk b o e) (Nat.le_refl _) (dk_new z (beq_eq_false_iff_ne.mpr (Ne.symm (Nat.ne_of_lt I.big))) rel dd'),rfl,q _ hn⟩
end
end L2
namespace L2
open PySem PySem.Spec PyProof.Rows
def defK {κ:Type} [DecidableEq κ] (kvs:List (κ×V)) (k:κ) (z:V):List (κ×V):=if (valV kvs k).isSome = true then kvs else putK kvs k z
def tDSetD (td ty tx:TE):TE:=fun σ H Q=>td σ H fun x H1=>∃ a,x = .ref a∧IsD H1 a∧ty σ H1 fun y H2=>tx σ H2 fun z H3=>∃ kvs k,H3 a = some (.dK kvs)∧y = kV k∧kvs.length < sizeLine∧∀ v,Q v (upd H3 a (.dK (defK kvs k z)))
section
variable {X:Cx} {o e f:Expr} {apos cpos:Pos} {td ty tx:TE}
theorem pe_dsetd (ho:PE X o td) (he:PE X e ty) (hf:PE X f tx) (m:M2 X o "setdefault" apos e f cpos):PE X (.Call (.Attribute o "setdefault" apos) [e,f] [] cpos) (tDSetD td ty tx):=by
  intro pins s σ H Q I h
  refine wpAny_Call_method m.base m.few m.line PySem.F.plainAttrs_dict PySem.F.slot_dict_setdefault PySem.F.type_dict_setdefault (thn (ho pins s σ H _ I h) fun u s1 ⟨x,H1,I1,rx,a,ex,d,q1⟩=>?_)
  subst ex
  obtain rfl:u = Value.ref a:=rx
  obtain ⟨t1,t2,_⟩:=isD_at I1 d
  refine ⟨t1,t2,?_⟩
  rw [m.trees]
  refine Calls.callWith_builtin rfl (Calls.evalArgs_plain (Calls.spliced_cons (thn (he pins s1 σ H1 _ I1 q1) fun iv s2 ⟨y,H2,I2,ry,q2⟩ =>
    Calls.spliced_cons (thn (hf pins s2 σ H2 _ I2 q2) fun fv s3 ⟨z,H3,I3,rz,kvs,k,ea,ey,hz,q3⟩=>Calls.spliced_nil ?_))))
  subst ey
  obtain ⟨zz,hd,vs,rel,dd⟩:=dk_of I3.hok ea
  refine call_meetsIn PySem.F.slot_dict_setdefault dd.typeIs PySem.F.entry_dict_setdefault (PySem.F.args_dict_setdefault_3 _ _ _) (PySem.kt_meets_setdefault (mixKind X.prog X.w) a (kV_is ry) hd fv)
    ⟨vs,dd,by rw [← rel.length];exact zz,fun v hv=>?_,fun hn h' dd' hs=>?_⟩
  · have hv':(valV kvs k).isSome = true:=by
      have:=(rel.val k).isSome_eq
      rw [this,hv];rfl
    obtain ⟨w',hw⟩:=Option.isSome_iff_exists.mp hv'
    obtain ⟨w2,hw2,rw2⟩:=RelO.some_of (v:=w') (o:=valueAt vs k) (by rw [← hw];exact rel.val k)
    rw [hv] at hw2
    cases hw2
    have q4:=q3 w'
    unfold defK at q4
    rw [if_pos hv',upd_self ea] at q4
    exact ⟨w',H3,I3.tok _,rw2,q4⟩
  · have hn':valV kvs k = none:=by
      cases hw:valV kvs k with
      | none=>rfl
      | some w' =>
        have:=(rel.val k).isSome_eq
        rw [hw,hn] at this;cases this
    have q4:=q3 z
    unfold defK at q4
    rw [if_neg (by rw [hn'];simp)] at q4
    have he:∃ q,h'.get? a = some q:=let ⟨q,_,_,hq,_⟩:=dd';⟨q,hq⟩
    have hl:(putK kvs k z).length≤sizeLine:=by have:=length_putK kvs k z;omega
    exact ⟨z,_,d_write I3 (by rw [ea];exact True.intro) hs he (dk_new hl hd (rel.put k rz) dd'),rz,q4⟩
end
end L2
namespace L2
open PySem PySem.Spec PyProof.Rows
def sumL {α:Type} (l:List α) (g:α→Int):Int:=(l.map g).sum
section
variable {α β:Type}
theorem sumL_nil (g:α→Int):sumL [] g = 0:=rfl
theorem sumL_cons (a:α) (l:List α) (g:α→Int):sumL (a :: l) g = g a + sumL l g:=by simp [sumL]
theorem sumL_congr {l:List α} {g h:α→Int} (e:∀ a∈l,g a = h a):sumL l g = sumL l h:=by
  induction l with
  | nil=>rfl
  | cons a l ih=>rw [sumL_cons,sumL_cons,e a (by simp),ih fun b hb=>e b (List.mem_cons_of_mem _ hb)]
theorem sumL_add (l:List α) (g h:α→Int):sumL l (fun a=>g a + h a) = sumL l g + sumL l h:=by
  induction l with
  | nil=>rfl
  | cons a l ih=>rw [sumL_cons,sumL_cons,sumL_cons,ih];omega
theorem sumL_sub (l:List α) (g h:α→Int):sumL l (fun a=>g a - h a) = sumL l g - sumL l h:=by
  induction l with
  | nil=>rfl
  | cons a l ih=>rw [sumL_cons,sumL_cons,sumL_cons,ih];omega
theorem sumL_neg (l:List α) (g:α→Int):sumL l (fun a=>- g a) = - sumL l g:=by
  induction l with
  | nil=>rfl
  | cons a l ih=>rw [sumL_cons,sumL_cons,ih];omega
theorem sumL_zero {l:List α} {g:α→Int} (e:∀ a∈l,g a = 0):sumL l g = 0:=by
  induction l with
  | nil=>rfl
  | cons a l ih=>rw [sumL_cons,e a (by simp),ih fun b hb=>e b (List.mem_cons_of_mem _ hb)];rfl
theorem sumL_le {l:List α} {g h:α→Int} (e:∀ a∈l,g a≤h a):sumL l g≤sumL l h:=by
  induction l with
  | nil=>exact Int.le_refl _
  | cons a l ih =>
    rw [sumL_cons,sumL_cons]
    have:=e a (by simp)
    have:=ih fun b hb=>e b (List.mem_cons_of_mem _ hb)
    omega
theorem sumL_nonneg {l:List α} {g:α→Int} (e:∀ a∈l,0≤g a):0≤sumL l g:=by
  have:=sumL_le (g:=fun _=>0) (h:=g) e
  rwa [sumL_zero (fun _ _=>rfl)] at this
theorem sumL_le_zero {l:List α} {g:α→Int} (e:∀ a∈l,0≤g a) (z:sumL l g≤0):∀ a∈l,g a = 0:=by
  induction l with
  | nil=>intro a h;simp at h
  | cons b l ih =>
    rw [sumL_cons] at z
    have h1:=e b (by simp)
    have h2:=sumL_nonneg fun a ha=>e a (List.mem_cons_of_mem _ ha)
    intro a ha
    rcases List.mem_cons.mp ha with q | q
    · subst q;omega
    · exact ih (fun a ha=>e a (List.mem_cons_of_mem _ ha)) (by omega) a q
theorem sumL_swap (l:List α) (m:List β) (g:α→β→Int):sumL l (fun a=>sumL m (g a)) = sumL m (fun b=>sumL l (fun a=>g a b)):=by
  induction l with
  | nil=>rw [sumL_nil];exact (sumL_zero fun _ _=>rfl).symm
  | cons a l ih =>
    rw [sumL_cons,ih]
    rw [← sumL_add]
    exact sumL_congr fun b _=>(sumL_cons a l fun a=>g a b).symm
theorem sumL_one [DecidableEq α] {l:List α} (nd:l.Nodup) {x:α} (hx:x∈l) (m:Int):sumL l (fun a=>if a = x then m else 0) = m:=by
  induction l with
  | nil=>simp at hx
  | cons b l ih =>
    rw [sumL_cons]
    obtain ⟨h1,h2⟩:=List.nodup_cons.mp nd
    rcases List.mem_cons.mp hx with q | q
    · subst q
      rw [if_pos rfl,sumL_zero (fun a ha=>by rw [if_neg];intro e;exact h1 (e ▸ ha))];omega
    · have:¬ b = x:=fun e=>h1 (e ▸ q)
      rw [if_neg this,ih h2 q];omega
end
abbrev Fl:=Str→Str→Int
def leave (ks:List Str) (c:Fl) (S:Str→Bool):Int:=sumL ks fun x=>sumL ks fun y=>if S x = true∧S y = false then c x y else 0
def outF (ks:List Str) (φ:Fl) (x:Str):Int:=sumL ks (φ x)
structure Flow (ks:List Str) (c:Fl) (one other:Str→Bool) (r:Fl) (amount:Int):Prop where
  nn:∀ x∈ks,∀ y∈ks,0≤r x y
  anti:∀ x∈ks,∀ y∈ks,c x y - r x y = - (c y x - r y x)
  cons:∀ x∈ks,one x = false→other x = false→outF ks (fun x y=>c x y - r x y) x = 0
  amt:amount = sumL ks fun x=>if one x = true then outF ks (fun x y=>c x y - r x y) x else 0
structure Side (ks:List Str) (one other S:Str→Bool):Prop where
  has:∀ x∈ks,one x = true→S x = true
  lacks:∀ x∈ks,other x = true→S x = false
section
variable {ks:List Str} {c r:Fl} {one other S:Str→Bool} {amount:Int}
theorem anti_zero {φ:Fl} (h:∀ x∈ks,∀ y∈ks,φ x y = - φ y x):sumL ks (fun x=>sumL ks fun y=>if S x = true∧S y = true then φ x y else 0) = 0:=by
  have e:sumL ks (fun x=>sumL ks fun y=>if S x = true∧S y = true then φ x y else 0) = - sumL ks (fun x=>sumL ks fun y=>if S x = true∧S y = true then φ x y else 0):=by
    refine (sumL_swap ..).trans ?_
    rw [← sumL_neg]
    refine sumL_congr fun y hy=>?_
    rw [← sumL_neg]
    refine sumL_congr fun x hx=>?_
    by_cases q:S x = true∧S y = true
    · rw [if_pos q,if_pos ⟨q.2,q.1⟩];exact h x hx y hy
    · rw [if_neg q,if_neg fun z=>q ⟨z.2,z.1⟩];rfl
  omega
theorem Flow.cut (f:Flow ks c one other r amount) (s:Side ks one other S):amount = leave ks (fun x y=>c x y - r x y) S:=by
  have h1:amount = sumL ks fun x=>if S x = true then outF ks (fun x y=>c x y - r x y) x else 0:=by
    rw [f.amt]
    refine sumL_congr fun x hx=>?_
    cases ho:one x with
    | true=>rw [if_pos rfl,if_pos (s.has x hx ho)]
    | false =>
      rw [if_neg (by simp)]
      cases hS:S x with
      | false=>rw [if_neg (by simp)]
      | true =>
        rw [if_pos rfl]
        cases ht:other x with
        | false=>exact (f.cons x hx ho ht).symm
        | true=>rw [s.lacks x hx ht] at hS;cases hS
  have h2:=anti_zero (S:=S) (φ:=fun x y=>c x y - r x y) f.anti
  rw [h1]
  unfold leave
  dsimp only
  have:∀ x∈ks,(if S x = true then outF ks (fun x y=>c x y - r x y) x else 0) = sumL ks (fun y=>if S x = true∧S y = true then c x y - r x y else 0) + sumL ks (fun y=>if S x = true∧S y = false then c x y - r x y else 0):=fun x _=>by
    rw [← sumL_add]
    cases hS:S x with
    | false=>rw [if_neg (by simp)];exact (sumL_zero fun y _=>by simp).symm
    | true =>
      rw [if_pos rfl]
      unfold outF
      refine sumL_congr fun y _=>?_
      cases hy:S y <;> simp
  rw [sumL_congr this,sumL_add,h2]
  omega
theorem Flow.weak (f:Flow ks c one other r amount) (s:Side ks one other S):amount≤leave ks c S:=by
  rw [f.cut s]
  refine sumL_le fun x hx=>sumL_le fun y hy=>?_
  have:=f.nn x hx y hy
  dsimp only
  split <;> omega
theorem Flow.tight (f:Flow ks c one other r amount) (s:Side ks one other S) (e:leave ks c S = amount):∀ x∈ks,∀ y∈ks,S x = true→S y = false→r x y = 0:=by
  have h:=f.cut s
  have hz:sumL ks (fun x=>sumL ks fun y=>if S x = true∧S y = false then r x y else 0) = 0:=by
    have e2:leave ks c S - leave ks (fun x y=>c x y - r x y) S = sumL ks (fun x=>sumL ks fun y=>if S x = true∧S y = false then r x y else 0):=by
      unfold leave
      rw [← sumL_sub]
      refine sumL_congr fun x _=>?_
      rw [← sumL_sub]
      refine sumL_congr fun y _=>?_
      dsimp only
      split <;> omega
    omega
  have nn:∀ x∈ks,∀ y∈ks,0≤(if S x = true∧S y = false then r x y else 0):=fun x hx y hy=>by
    have:=f.nn x hx y hy
    split <;> omega
  intro x hx y hy h1 h2
  have a:=sumL_le_zero (fun x hx=>sumL_nonneg (nn x hx)) (Int.le_of_eq hz) x hx
  have b:=sumL_le_zero (nn x hx) (Int.le_of_eq a) y hy
  rwa [if_pos ⟨h1,h2⟩] at b
theorem Flow.met (f:Flow ks c one other r amount) (s:Side ks one other S) (h:∀ x∈ks,∀ y∈ks,S x = true→S y = false→r x y = 0):leave ks c S = amount:=by
  rw [f.cut s]
  refine sumL_congr fun x hx=>sumL_congr fun y hy=>?_
  by_cases q:S x = true∧S y = false
  · rw [if_pos q,if_pos q]
    dsimp only
    rw [h x hx y hy q.1 q.2];omega
  · rw [if_neg q,if_neg q]
end
def pushF (r:Fl) (x y:Str) (m:Int):Fl:=fun a b=>if a = x∧b = y then r a b - m else if a = y∧b = x then r a b + m else r a b
section
variable {ks:List Str} {c r:Fl} {one other:Str→Bool} {amount m:Int}
theorem push_anti (h:∀ a∈ks,∀ b∈ks,c a b - r a b = - (c b a - r b a)) {x y:Str} (hne:x≠y):∀ a∈ks,∀ b∈ks,c a b - pushF r x y m a b = - (c b a - pushF r x y m b a):=fun a ha b hb=>by
  have:=h a ha b hb
  unfold pushF
  by_cases q:a = x∧b = y
  · have q2:¬ (b = x∧a = y):=fun z=>hne (z.1.symm.trans q.2)
    rw [if_pos q,if_neg q2,if_pos ⟨q.2,q.1⟩];omega
  · rw [if_neg q]
    by_cases p:a = y∧b = x
    · rw [if_pos p,if_pos ⟨p.2,p.1⟩];omega
    · rw [if_neg p,if_neg fun z=>p ⟨z.2,z.1⟩,if_neg fun z=>q ⟨z.2,z.1⟩];omega
theorem push_out (nd:ks.Nodup) {x y:Str} (hx:x∈ks) (hy:y∈ks) (hne:x≠y) (v:Str):outF ks (fun a b=>c a b - pushF r x y m a b) v = outF ks (fun a b=>c a b - r a b) v + (if v = x then m else 0) - (if v = y then m else 0):=by
  unfold outF
  dsimp only
  have e:∀ b∈ks,c v b - pushF r x y m v b = (c v b - r v b) + ((if b = y then (if v = x then m else 0) else 0) - (if b = x then (if v = y then m else 0) else 0)):=fun b _=>by
    unfold pushF
    by_cases q:v = x∧b = y
    · rw [if_pos q,if_pos q.2,if_pos q.1]
      have:¬ b = x:=fun z=>hne (z.symm.trans q.2)
      rw [if_neg this];omega
    · rw [if_neg q]
      by_cases p:v = y∧b = x
      · rw [if_pos p,if_pos p.2,if_pos p.1]
        have:¬ b = y:=fun z=>hne (p.2.symm.trans z)
        rw [if_neg this];omega
      · rw [if_neg p]
        have a1:(if b = y then (if v = x then m else 0) else 0) = 0:=by
          by_cases z:b = y
          · rw [if_pos z,if_neg fun w=>q ⟨w,z⟩]
          · rw [if_neg z]
        have a2:(if b = x then (if v = y then m else 0) else 0) = 0:=by
          by_cases z:b = x
          · rw [if_pos z,if_neg fun w=>p ⟨w,z⟩]
          · rw [if_neg z]
        rw [a1,a2];omega
  rw [sumL_congr e,sumL_add,sumL_sub (l:=ks) (g:=fun b=>if b = y then (if v = x then m else 0) else 0),sumL_one nd hy,sumL_one nd hx]
  omega
end
def pushN (r:Fl) (m:Int) (w:List Str):Nat→Fl
  | 0=>r
  | i + 1=>match w[i]?,w[i + 1]? with
    | some x,some y=>pushF (pushN r m w i) x y m
    | _,_=>pushN r m w i
theorem pushN_succ {r:Fl} {m:Int} {w:List Str} {i:Nat} {x y:Str} (h1:w[i]? = some x) (h2:w[i + 1]? = some y):pushN r m w (i + 1) = pushF (pushN r m w i) x y m:=by
  show (match w[i]?,w[i + 1]? with | some x,some y=>pushF (pushN r m w i) x y m | _,_=>pushN r m w i) = _
  rw [h1,h2]
structure WayOk (ks:List Str) (r:Fl) (m:Int) (w:List Str):Prop where
  mem:∀ x∈w,x∈ks
  nd:w.Nodup
  room:∀ i x y,w[i]? = some x→w[i + 1]? = some y→m≤r x y
theorem nd_ix {w:List Str} (nd:w.Nodup) {i j:Nat} {x:Str} (h1:w[i]? = some x) (h2:w[j]? = some x):i = j:=by
  have a:=(List.getElem?_eq_some_iff.mp h1).1
  exact (List.getElem?_inj a nd).mp (h1.trans h2.symm)
section
variable {ks:List Str} {c r:Fl} {one other:Str→Bool} {amount m:Int} {w:List Str}
theorem WayOk.later (h:WayOk ks r m w):∀ (i j:Nat) (x y:Str),i≤j→w[j]? = some x→w[j + 1]? = some y→pushN r m w i x y = r x y
  | 0,_,_,_,_,_,_=>rfl
  | i + 1,j,x,y,hij,hx,hy=>by
    have ih:=WayOk.later h i j x y (by omega) hx hy
    cases h1:w[i]? with
    | none =>
      have:w.length≤i:=by simpa using h1
      have:=(List.getElem?_eq_some_iff.mp hx).1
      omega
    | some a =>
    cases h2:w[i + 1]? with
    | none =>
      have:w.length≤i + 1:=by simpa using h2
      have:=(List.getElem?_eq_some_iff.mp hx).1
      omega
    | some b =>
    rw [pushN_succ h1 h2]
    unfold pushF
    rw [if_neg,if_neg]
    · exact ih
    · rintro ⟨e1,e2⟩
      subst e1 e2
      have q1:=nd_ix h.nd hx h2
      have q2:=nd_ix h.nd hy h1
      omega
    · rintro ⟨e1,e2⟩
      subst e1 e2
      have q1:=nd_ix h.nd hx h1
      omega
theorem WayOk.nn (h:WayOk ks r m w) (hm:0≤m) (nn:∀ x∈ks,∀ y∈ks,0≤r x y):∀ i,∀ x∈ks,∀ y∈ks,0≤pushN r m w i x y
  | 0=>nn
  | i + 1=>fun x hx y hy=>by
    have ih:=WayOk.nn h hm nn i
    cases h1:w[i]? with
    | none =>
      have e:pushN r m w (i + 1) = pushN r m w i:=by
        show (match w[i]?,w[i + 1]? with | some x,some y=>pushF (pushN r m w i) x y m | _,_=>pushN r m w i) = _
        rw [h1]
      rw [e];exact ih x hx y hy
    | some a =>
    cases h2:w[i + 1]? with
    | none =>
      have e:pushN r m w (i + 1) = pushN r m w i:=by
        show (match w[i]?,w[i + 1]? with | some x,some y=>pushF (pushN r m w i) x y m | _,_=>pushN r m w i) = _
        rw [h1,h2]
      rw [e];exact ih x hx y hy
    | some b =>
    rw [pushN_succ h1 h2]
    have e:=h.later i i a b (Nat.le_refl _) h1 h2
    have g:=h.room i a b h1 h2
    have z:=ih x hx y hy
    unfold pushF
    by_cases q:x = a∧y = b
    · rw [if_pos q,q.1,q.2,e];omega
    · rw [if_neg q];split <;> omega
theorem WayOk.anti (h:WayOk ks r m w) (an:∀ x∈ks,∀ y∈ks,c x y - r x y = - (c y x - r y x)):∀ i,∀ x∈ks,∀ y∈ks,c x y - pushN r m w i x y = - (c y x - pushN r m w i y x)
  | 0=>an
  | i + 1=>by
    have ih:=WayOk.anti h an i
    cases h1:w[i]? with
    | none =>
      have e:pushN r m w (i + 1) = pushN r m w i:=by
        show (match w[i]?,w[i + 1]? with | some x,some y=>pushF (pushN r m w i) x y m | _,_=>pushN r m w i) = _
        rw [h1]
      rw [e];exact ih
    | some a =>
    cases h2:w[i + 1]? with
    | none =>
      have e:pushN r m w (i + 1) = pushN r m w i:=by
        show (match w[i]?,w[i + 1]? with | some x,some y=>pushF (pushN r m w i) x y m | _,_=>pushN r m w i) = _
        rw [h1,h2]
      rw [e];exact ih
    | some b =>
    rw [pushN_succ h1 h2]
    refine push_anti ih fun e=>?_
    subst e
    have:=nd_ix h.nd h1 h2
    omega
theorem WayOk.out (h:WayOk ks r m w) (nd:ks.Nodup) {x0:Str} (h0:w[0]? = some x0) (v:Str):∀ (i:Nat) (x:Str),w[i]? = some x→outF ks (fun a b=>c a b - pushN r m w i a b) v = outF ks (fun a b=>c a b - r a b) v + (if v = x0 then m else 0) - (if v = x then m else 0)
  | 0,x,hx=>by
    rw [h0] at hx
    cases hx
    show outF ks (fun a b=>c a b - r a b) v = _
    omega
  | i + 1,y,hy=>by
    cases h1:w[i]? with
    | none =>
      have:w.length≤i:=by simpa using h1
      have:=(List.getElem?_eq_some_iff.mp hy).1
      omega
    | some x =>
    have ih:=WayOk.out h nd h0 v i x h1
    rw [pushN_succ h1 hy]
    have hne:x≠y:=fun e=>by
      subst e
      have:=nd_ix h.nd h1 hy
      omega
    rw [push_out nd (h.mem _ (List.mem_of_getElem? h1)) (h.mem _ (List.mem_of_getElem? hy)) hne,ih]
    omega
theorem Flow.push (f:Flow ks c one other r amount) (nd:ks.Nodup) (dj:∀ x∈ks,one x = true→other x = false) (h:WayOk ks r m w) (hm:0≤m) {k:Nat} {x0 xk:Str} (h0:w[0]? = some x0) (hk:w[k]? = some xk) (o0:one x0 = true) (ok:other xk = true) :
    Flow ks c one other (pushN r m w k) (amount + m):=by
  have m0:=h.mem _ (List.mem_of_getElem? h0)
  have mk:=h.mem _ (List.mem_of_getElem? hk)
  refine ⟨h.nn hm f.nn k,h.anti f.anti k,fun x hx hx1 hx2=>?_,?_⟩
  · rw [h.out nd h0 x k xk hk,f.cons x hx hx1 hx2,if_neg (fun e=>by rw [e,o0] at hx1;cases hx1),if_neg (fun e=>by rw [e,ok] at hx2;cases hx2)];rfl
  · have hok:one xk = false:=by
      cases q:one xk with
      | false=>rfl
      | true=>rw [dj xk mk q] at ok;cases ok
    have e:∀ x∈ks,(if one x = true then outF ks (fun a b=>c a b - pushN r m w k a b) x else 0) = (if one x = true then outF ks (fun a b=>c a b - r a b) x else 0) + (if x = x0 then m else 0):=fun x _=>by
      cases q:one x with
      | false=>rw [if_neg (by simp),if_neg (by simp),if_neg (fun e=>by rw [e,o0] at q;cases q)];rfl
      | true =>
        rw [if_pos rfl,if_pos rfl,h.out nd h0 x k xk hk]
        have:¬ x = xk:=fun e=>by rw [e,hok] at q;cases q
        rw [if_neg this];omega
    rw [sumL_congr e,sumL_add,sumL_one nd m0,← f.amt]
theorem Flow.start (nnc:∀ x∈ks,∀ y∈ks,0≤c x y):Flow ks c one other c 0 :=
  ⟨nnc,fun x _ y _=>by omega,fun x _ _ _=>sumL_zero fun y _=>by simp,(sumL_zero fun x _=>by
    split
    · exact sumL_zero fun y _=>by simp
    · rfl).symm⟩
end
end L2
namespace L2
open PySem PySem.Spec PyProof.Rows
theorem op_in_seqK {X:Cx} {K:PySem.W.Frag} (hK:X.K = K):OpR X (compareOp .In) (rIn K false):=by subst hK;exact op_in_seq
theorem inV_strs (x:Str):∀ ss:List Str,inV (.str x) (ss.map V.str) = decide (x∈ss)
  | []=>by simp [inV]
  | y :: ss=>by
    have ih:=inV_strs x ss
    unfold inV at ih ⊢
    simp only [List.map_cons,List.any_cons]
    rw [ih]
    by_cases h:x = y
    · subst h;simp [eqV]
    · have h':¬ y = x:=fun z=>h z.symm
      simp [eqV,h,h']
theorem flat_strs:∀ ss:List Str,(ss.map V.str).all flatV = true
  | []=>rfl
  | _ :: ss=>by simp only [List.map_cons,List.all_cons,flat_strs ss];rfl
def rc (g:Str→Row):Fl:=fun x y=>(look (g x) y).getD 0
abbrev Ah:=List (Str×Option Str)
def ahV:Option Str→V | none=>.non | some p=>.str p
def ahK (L:Ah):List (Key×V):=L.map fun e=>(Sum.inr e.1,ahV e.2)
def ahOf (L:Ah) (x:Str):Option (Option Str):=(L.find? fun e=>decide (e.1 = x)).map (·.2)
theorem valV_ahK (L:Ah) (x:Str):valV (ahK L) (Sum.inr x) = (ahOf L x).map ahV:=by
  unfold ahK ahOf valV
  induction L with
  | nil=>rfl
  | cons e L ih =>
    by_cases h:e.1 = x
    · simp [List.find?_cons,h]
    · have h':¬ (Sum.inr e.1:Key) = Sum.inr x:=fun z=>h (by injection z)
      simp only [List.map_cons,List.find?_cons,h,h',decide_false]
      exact ih
theorem ahOf_none {L:Ah} {x:Str}:ahOf L x = none ↔ x∉L.map (·.1):=by
  unfold ahOf
  rw [Option.map_eq_none_iff,List.find?_eq_none]
  constructor
  · intro h hm
    obtain ⟨e,he,q⟩:=List.mem_map.mp hm
    exact h e he (by simp [q])
  · intro h e he q
    exact h (List.mem_map.mpr ⟨e,he,by simpa using q⟩)
theorem ahOf_get {L:Ah} (nd:(L.map (·.1)).Nodup) {i:Nat} {e:Str×Option Str} (h:L[i]? = some e):ahOf L e.1 = some e.2:=by
  unfold ahOf
  have hm:=List.mem_of_getElem? h
  cases q:L.find? fun z=>decide (z.1 = e.1) with
  | none=>exact absurd (List.find?_eq_none.mp q e hm) (by simp)
  | some z =>
    have hz:=List.find?_some q
    have:z = e:=nd_inj nd (List.mem_of_find?_eq_some q) hm (by simpa using hz)
    rw [this];rfl
theorem ahK_put {L:Ah} {x:Str} (p:Option Str) (h:x∉L.map (·.1)):putK (ahK L) (Sum.inr x) (ahV p) = ahK (L ++ [(x,p)]):=by
  rw [putK_new]
  · unfold ahK;rw [List.map_append];rfl
  · rw [valV_ahK,ahOf_none.mpr h];rfl
structure Bfs (ks:List Str) (r:Fl) (os:List Str) (L:Ah):Prop where
  nd:(L.map (·.1)).Nodup
  mem:∀ x∈L.map (·.1),x∈ks
  ones:∀ x∈os,x∈L.map (·.1)
  par:∀ (i:Nat) (x:Str) (p:Option Str),L[i]? = some (x,p)→(p = none∧x∈os)∨∃ (y:Str) (j:Nat) (q:Option Str),p = some y∧j < i∧L[j]? = some (y,q)∧0 < r y x
def Done (ks:List Str) (r:Fl) (L:Ah) (i:Nat):Prop:=∀ x∈(L.take i).map (·.1),∀ y∈ks,0 < r x y→y∈L.map (·.1)
theorem Bfs.start {ks os:List Str} {r:Fl} (nd:os.Nodup) (h:∀ x∈os,x∈ks):Bfs ks r os ((sortS os).map fun x=>(x,none)):=by
  have e:((sortS os).map fun x=>((x,none):Str×Option Str)).map (·.1) = sortS os:=by rw [List.map_map];exact List.map_id' _
  refine ⟨by rw [e];exact sortS_nodup nd,fun x hx=>?_,fun x hx=>by rw [e];exact mem_sortS.mpr hx,fun i x p hi=>.inl ?_⟩
  · rw [e] at hx;exact h x (mem_sortS.mp hx)
  · rw [List.getElem?_map] at hi
    cases q:(sortS os)[i]? with
    | none=>rw [q] at hi;cases hi
    | some z =>
      rw [q] at hi
      cases hi
      exact ⟨rfl,mem_sortS.mp (List.mem_of_getElem? q)⟩
theorem Bfs.snoc {ks os:List Str} {r:Fl} {L:Ah} (b:Bfs ks r os L) {x y:Str} {j:Nat} {q:Option Str} (hj:L[j]? = some (y,q)) (hx:x∉L.map (·.1)) (hk:x∈ks) (hr:0 < r y x):Bfs ks r os (L ++ [(x,some y)]):=by
  refine ⟨?_,fun z hz=>?_,fun z hz=>?_,fun i z p hi=>?_⟩
  · rw [List.map_append];exact nd_snoc b.nd hx
  · rw [List.map_append] at hz
    rcases List.mem_append.mp hz with c | c
    · exact b.mem z c
    · rw [show z = x by simpa using c];exact hk
  · rw [List.map_append];exact List.mem_append_left _ (b.ones z hz)
  · have hjl:=(List.getElem?_eq_some_iff.mp hj).1
    rw [List.getElem?_append] at hi
    split at hi
    · rcases b.par i z p hi with c | ⟨y',j',q',c1,c2,c3,c4⟩
      · exact .inl c
      · exact .inr ⟨y',j',q',c1,c2,by rw [List.getElem?_append_left ((List.getElem?_eq_some_iff.mp c3).1)];exact c3,c4⟩
    · rename_i hge
      have:i - L.length = 0:=by
        have:=(List.getElem?_eq_some_iff.mp hi).1
        simp at this
        omega
      rw [this] at hi
      cases hi
      exact .inr ⟨y,j,q,rfl,by omega,by rw [List.getElem?_append_left hjl];exact hj,hr⟩
theorem Done.snoc {ks:List Str} {r:Fl} {L:Ah} {i:Nat} (d:Done ks r L i) (hi:i≤L.length) (e:Str×Option Str):Done ks r (L ++ [e]) i:=fun x hx y hy h=>by
  rw [List.take_append_of_le_length hi] at hx
  rw [List.map_append]
  exact List.mem_append_left _ (d x hx y hy h)
theorem Bfs.len {ks os:List Str} {r:Fl} {L:Ah} (b:Bfs ks r os L):L.length≤ks.length:=by
  have:=nd_len b.nd b.mem
  rwa [List.length_map] at this
theorem Done.all {ks:List Str} {r:Fl} {L:Ah} (d:Done ks r L L.length):∀ x∈L.map (·.1),∀ y∈ks,0 < r x y→y∈L.map (·.1):=by
  unfold Done at d
  rwa [List.take_of_length_le (Nat.le_refl _)] at d
theorem Bfs.within {ks os:List Str} {r:Fl} {L:Ah} (b:Bfs ks r os L) {S:Str→Bool} (h1:∀ x∈os,S x = true) (h2:∀ x∈ks,∀ y∈ks,S x = true→0 < r x y→S y = true):∀ x∈L.map (·.1),S x = true:=by
  have key:∀ (n i:Nat) (x:Str) (p:Option Str),i≤n→L[i]? = some (x,p)→S x = true:=by
    intro n
    induction n with
    | zero =>
      intro i x p hi hx
      rcases b.par i x p hx with ⟨_,q⟩ | ⟨_,j,_,_,hj,_⟩
      · exact h1 x q
      · omega
    | succ n ih =>
      intro i x p hi hx
      rcases b.par i x p hx with ⟨_,q⟩ | ⟨y,j,q,_,hj,hy,hr⟩
      · exact h1 x q
      · have my:y∈ks:=b.mem y (List.mem_map.mpr ⟨_,List.mem_of_getElem? hy,rfl⟩)
        have mx:x∈ks:=b.mem x (List.mem_map.mpr ⟨_,List.mem_of_getElem? hx,rfl⟩)
        exact h2 y my x mx (ih j y q (by omega) hy) hr
  intro x hx
  obtain ⟨e,he,rfl⟩:=List.mem_map.mp hx
  obtain ⟨i,hi⟩:=List.getElem?_of_mem he
  exact key i i e.1 e.2 (Nat.le_refl _) hi
structure Trail (ks os:List Str) (r:Fl) (L:Ah) (i:Nat) (w:List Str):Prop where
  head:∃ x p,w[0]? = some x∧L[i]? = some (x,p)
  mem:∀ x∈w,x∈ks
  nd:w.Nodup
  late:∀ (k:Nat) (x:Str),w[k + 1]? = some x→∃ j p,i < j∧L[j]? = some (x,p)
  room:∀ (k:Nat) (x y:Str),w[k]? = some x→w[k + 1]? = some y→0 < r x y
theorem Trail.one {ks os:List Str} {r:Fl} {L:Ah} (b:Bfs ks r os L) {i:Nat} {x:Str} {p:Option Str} (h:L[i]? = some (x,p)):Trail ks os r L i [x]:=by
  refine ⟨⟨x,p,rfl,h⟩,fun y hy=>?_,by simp,fun k y hk=>?_,fun k y z _ hk=>?_⟩
  · rw [show y = x by simpa using hy];exact b.mem x (List.mem_map.mpr ⟨_,List.mem_of_getElem? h,rfl⟩)
  · simp at hk
  · simp at hk
theorem Trail.cons {ks os:List Str} {r:Fl} {L:Ah} (b:Bfs ks r os L) {i j:Nat} {w:List Str} {x y:Str} {p:Option Str} (t:Trail ks os r L i w) (hx:w[0]? = some x) (hj:j < i) (hy:L[j]? = some (y,p)) (hr:0 < r y x):Trail ks os r L j (y :: w):=by
  obtain ⟨x',p',hx',hL⟩:=t.head
  rw [hx] at hx'
  cases hx'
  have later:∀ z∈w,∃ k q,j < k∧L[k]? = some (z,q):=fun z hz=>by
    obtain ⟨k,hk⟩:=List.getElem?_of_mem hz
    cases k with
    | zero =>
      rw [hx] at hk
      cases hk
      exact ⟨i,p',hj,hL⟩
    | succ k =>
      obtain ⟨k',q,h1,h2⟩:=t.late k z hk
      exact ⟨k',q,by omega,h2⟩
  refine ⟨⟨y,p,rfl,hy⟩,fun z hz=>?_,?_,fun k z hk=>?_,fun k a c h1 h2=>?_⟩
  · rcases List.mem_cons.mp hz with e | e
    · rw [e];exact b.mem y (List.mem_map.mpr ⟨_,List.mem_of_getElem? hy,rfl⟩)
    · exact t.mem z e
  · refine List.nodup_cons.mpr ⟨fun hm=>?_,t.nd⟩
    obtain ⟨k,q,h1,h2⟩:=later y hm
    have a1:(L.map (·.1))[j]? = some y:=by rw [List.getElem?_map,hy];rfl
    have a2:(L.map (·.1))[k]? = some y:=by rw [List.getElem?_map,h2];rfl
    have:=nd_ix b.nd a1 a2
    omega
  · rw [List.getElem?_cons_succ] at hk
    exact later z (List.mem_of_getElem? hk)
  · rw [List.getElem?_cons_succ] at h2
    cases k with
    | zero =>
      rw [List.getElem?_cons_zero] at h1
      cases h1
      rw [hx] at h2
      cases h2
      exact hr
    | succ k =>
      rw [List.getElem?_cons_succ] at h1
      exact t.room k a c h1 h2
end L2
namespace L2
open PySem PySem.Spec PyProof.Rows
def defRow (l:Row) (k:Str):Row:=if (look l k).isSome = true then l else put l k 0
def defR (g:Str→Row) (x k:Str):Str→Row:=fun z=>if z = x then defRow (g x) k else g z
theorem encI_def (l:Row) (k:Str):defK (encI l) (Sum.inr k) (.int 0) = encI (defRow l k):=by
  unfold defK defRow
  rw [valV_enc,Option.isSome_map]
  split
  · rfl
  · exact encI_put l k 0
theorem look_defRow (l:Row) (k z:Str):look (defRow l k) z = if k = z∧look l k = none then some 0 else look l z:=by
  unfold defRow
  cases h:look l k with
  | none =>
    rw [if_neg (by simp),look_put]
    by_cases c:k = z
    · rw [if_pos c,if_pos ⟨c,rfl⟩]
    · rw [if_neg c,if_neg fun q=>c q.1]
  | some v=>rw [if_pos (show (some v).isSome = true from rfl),if_neg fun q=>by cases q.2]
theorem look_defR (g:Str→Row) (x k a z:Str):look (defR g x k a) z = if a = x∧k = z∧look (g x) k = none then some 0 else look (g a) z:=by
  unfold defR
  by_cases h:a = x
  · subst h
    rw [if_pos rfl,look_defRow]
    by_cases c:k = z∧look (g a) k = none
    · rw [if_pos c,if_pos ⟨rfl,c⟩]
    · rw [if_neg c,if_neg fun q=>c q.2]
  · rw [if_neg h,if_neg fun q=>h q.1]
theorem rc_defR (g:Str→Row) (x k a z:Str):rc (defR g x k) a z = rc g a z:=by
  unfold rc
  rw [look_defR]
  by_cases c:a = x∧k = z∧look (g x) k = none
  · obtain ⟨rfl,rfl,h⟩:=c
    rw [if_pos ⟨rfl,rfl,h⟩,h];rfl
  · rw [if_neg c]
theorem defR_nd {g:Str→Row} {x k a:Str} (hx:((g x).map (·.1)).Nodup) (ha:((g a).map (·.1)).Nodup):((defR g x k a).map (·.1)).Nodup:=by
  unfold defR
  split
  · unfold defRow
    split
    · exact hx
    · exact put_nodup _ _ hx
  · exact ha
theorem NetAt.defr {H:Hp} {a b:Addr} {bs:Outer} {f:Str→Row} {x:Str} (n:NetAt H a bs f) (h:addrOf bs x = some b) (y:Str):NetAt (upd H b (.dK (encI (defRow (f x) y)))) a bs (defR f x y):=by
  refine ⟨?_,fun q hq=>?_,n.ks,n.nd⟩
  · rw [upd_ne (n.ne h).symm];exact n.out
  · by_cases e:q.2 = b
    · have:q = (x,b):=nd_inj (List.nodup_cons.mp n.nd).2 hq (addrOf_mem h) e
      subst this
      rw [upd_same]
      unfold defR
      rw [if_pos rfl]
    · rw [upd_ne e]
      have hne:¬ q.1 = x:=fun z=>e (by
        have:q = (x,b):=nd_inj n.ks hq (addrOf_mem h) z
        rw [this])
      unfold defR
      rw [if_neg hne]
      exact n.inn q hq
structure RoomOf (ks:List Str) (f g:Str→Row):Prop where
  rows:RowsIn ks g
  same:∀ x y,rc g x y = rc f x y
  keys:∀ x∈ks,∀ y∈ks,(look (g x) y).isSome = ((look (f x) y).isSome || (look (f y) x).isSome)
structure RoomI (ks:List Str) (f g:Str→Row) (i:Nat):Prop where
  rows:RowsIn ks g
  same:∀ x y,rc g x y = rc f x y
  keys:∀ x∈ks,∀ y∈ks,(look (g x) y).isSome = ((look (f x) y).isSome || (decide (y∈ks.take i) && (look (f y) x).isSome))
structure RoomJ (ks:List Str) (f g:Str→Row) (i:Nat) (k:Str) (j:Nat):Prop where
  rows:RowsIn ks g
  same:∀ x y,rc g x y = rc f x y
  keys:∀ x∈ks,∀ y∈ks,(look (g x) y).isSome = ((look (f x) y).isSome || (decide (y∈ks.take i) && (look (f y) x).isSome) || (decide (y = k) && decide (x∈((f k).map (·.1)).take j)))
theorem RoomI.zero {ks:List Str} {f:Str→Row} (h:RowsIn ks f):RoomI ks f f 0:=⟨h,fun _ _=>rfl,fun x _ y _=>by simp⟩
theorem RoomJ.zero {ks:List Str} {f g:Str→Row} {i:Nat} {k:Str} (h:RoomI ks f g i):RoomJ ks f g i k 0:=⟨h.rows,h.same,fun x hx y hy=>by rw [h.keys x hx y hy];simp⟩
theorem RoomJ.succ {ks:List Str} {f g:Str→Row} {i j:Nat} {k:Str} (h:RoomJ ks f g i k j) {e:Str×Int} (he:(f k)[j]? = some e) (hk:k∈ks) (hem:e.1∈ks):RoomJ ks f (defR g e.1 k) i k (j + 1):=by
  have he1:((f k).map (·.1))[j]? = some e.1:=by rw [List.getElem?_map,he];rfl
  refine ⟨⟨fun x hx=>defR_nd (h.rows.nd _ hem) (h.rows.nd x hx),fun x hx y hy=>?_⟩,fun x y=>by rw [rc_defR];exact h.same x y,fun x hx y hy=>?_⟩
  · obtain ⟨v,hv⟩:=look_some_iff.mpr hy
    rw [look_defR] at hv
    by_cases c:x = e.1∧k = y∧look (g e.1) k = none
    · rw [← c.2.1];exact hk
    · rw [if_neg c] at hv
      exact h.rows.inn x hx y (look_some_iff.mp ⟨v,hv⟩)
  · have hh:=h.keys x hx y hy
    rw [look_defR,List.take_add_one,he1]
    by_cases c:x = e.1∧k = y∧look (g e.1) k = none
    · rw [if_pos c]
      obtain ⟨rfl,rfl,_⟩:=c
      simp
    · rw [if_neg c,hh]
      by_cases d:y = k
      · subst d
        by_cases d2:x = e.1
        · subst d2
          have:(look (g e.1) y).isSome = true:=by
            cases z:look (g e.1) y with
            | none=>exact absurd ⟨rfl,rfl,z⟩ c
            | some v=>rfl
          rw [hh] at this
          rw [this];simp
        · simp [d2]
      · simp [d]
theorem RoomJ.last {ks:List Str} {f g:Str→Row} {i:Nat} {k:Str} (h:RoomJ ks f g i k (f k).length) (hk:ks[i]? = some k) (nd:ks.Nodup):RoomI ks f g (i + 1):=by
  refine ⟨h.rows,h.same,fun x hx y hy=>?_⟩
  rw [h.keys x hx y hy,List.take_add_one,hk]
  have e:((f k).map (·.1)).take (f k).length = (f k).map (·.1):=List.take_of_length_le (by rw [List.length_map];exact Nat.le_refl _)
  rw [e]
  have e2:decide (x∈(f k).map (·.1)) = (look (f k) x).isSome:=by
    cases z:look (f k) x with
    | none=>simpa using look_none.mp z
    | some v=>simpa using look_some_iff.mp ⟨v,z⟩
  rw [e2]
  by_cases d:y = k
  · subst d
    have:y∉ks.take i:=nodup_take nd hk
    simp [this]
  · simp [d]
theorem RoomI.done {ks:List Str} {f g:Str→Row} (h:RoomI ks f g ks.length):RoomOf ks f g:=⟨h.rows,h.same,fun x hx y hy=>by
  rw [h.keys x hx y hy,List.take_of_length_le (Nat.le_refl _)]
  simp [hy]⟩
end L2
namespace L2
open PySem PySem.Spec PyProof.Rows
theorem pg_twoK {X:Cx} {K:PySem.W.Frag} (hK:X.K = K) {i j:Nat} {x y:Str} {p1 p2 pos:Pos} {k:Nat} (hc:X.calm = true) (hN:X.N.Nodup) (hi:X.N[i]? = some x) (hj:X.N[j]? = some y) (hx:Loc X.env.scope x) (hy:Loc X.env.scope y)
    (hf1:X.fn x = true∨X.env.scope.names.lookup x = some .local:=by first | exact .inl rfl | exact .inr rfl | assumption) (hf2:X.fn y = true∨X.env.scope.names.lookup y = some .local:=by first | exact .inl rfl | exact .inr rfl | assumption) :
    PG X (.Tuple [.Name x p1,.Name y p2] k pos) (gTup K 2 (gCons (gName i) (gCons (gName j) gNil))):=by
  subst hK
  exact pg_tup hc (pgs_cons (pg_name hN hi hx hf1) (pgs_cons (pg_name hN hj hy hf2) pgs_nil))
theorem pg_threeK {X:Cx} {K:PySem.W.Frag} (hK:X.K = K) {i j l:Nat} {x y z:Str} {p1 p2 p3 pos:Pos} {k:Nat} (hc:X.calm = true) (hN:X.N.Nodup) (hi:X.N[i]? = some x) (hj:X.N[j]? = some y) (hl:X.N[l]? = some z) (hx:Loc X.env.scope x) (hy:Loc X.env.scope y) (hz:Loc X.env.scope z)
    (hf1:X.fn x = true∨X.env.scope.names.lookup x = some .local:=by first | exact .inl rfl | exact .inr rfl | assumption) (hf2:X.fn y = true∨X.env.scope.names.lookup y = some .local:=by first | exact .inl rfl | exact .inr rfl | assumption) (hf3:X.fn z = true∨X.env.scope.names.lookup z = some .local:=by first | exact .inl rfl | exact .inr rfl | assumption) :
    PG X (.Tuple [.Name x p1,.Name y p2,.Name z p3] k pos) (gTup K 3 (gCons (gName i) (gCons (gName j) (gCons (gName l) gNil)))):=by
  subst hK
  exact pg_tup hc (pgs_cons (pg_name hN hi hx hf1) (pgs_cons (pg_name hN hj hy hf2) (pgs_cons (pg_name hN hl hz hf3) pgs_nil)))
end L2
namespace L2
open PySem PySem.Spec PyProof.Rows
section
variable {ks:List Str} {c r r':Fl} {one other:Str→Bool} {amount:Int}
theorem Flow.congr (f:Flow ks c one other r amount) (e:∀ x∈ks,∀ y∈ks,r' x y = r x y):Flow ks c one other r' amount:=by
  have ho:∀ x∈ks,outF ks (fun x y=>c x y - r' x y) x = outF ks (fun x y=>c x y - r x y) x:=fun x hx=>by
    unfold outF
    exact sumL_congr fun y hy=>by dsimp only;rw [e x hx y hy]
  refine ⟨fun x hx y hy=>by rw [e x hx y hy];exact f.nn x hx y hy,fun x hx y hy=>by rw [e x hx y hy,e y hy x hx];exact f.anti x hx y hy,fun x hx h1 h2=>by rw [ho x hx];exact f.cons x hx h1 h2,?_⟩
  rw [f.amt]
  refine sumL_congr fun x hx=>?_
  rw [ho x hx]
end
theorem rc_putR (g:Str→Row) (x y:Str) (v:Int) (a b:Str):rc (putR g x y v) a b = if a = x∧b = y then v else rc g a b:=by
  unfold rc
  by_cases h:a = x
  · subst h
    rw [putR_at,look_put]
    by_cases c:y = b
    · rw [if_pos c,if_pos ⟨rfl,c.symm⟩];rfl
    · rw [if_neg c,if_neg fun q=>c q.2.symm]
  · rw [putR_ne h,if_neg fun q=>h q.1]
theorem some_putR {g:Str→Row} {x y:Str} {v:Int} (hs:(look (g x) y).isSome = true) (a b:Str):(look (putR g x y v a) b).isSome = (look (g a) b).isSome:=by
  by_cases h:a = x
  · subst h
    rw [putR_at,look_put]
    by_cases c:y = b
    · subst c;rw [if_pos rfl,hs];rfl
    · rw [if_neg c]
  · rw [putR_ne h]
theorem RowsIn.putR {ss:List Str} {g:Str→Row} (h:RowsIn ss g) {x y:Str} {v:Int} (hx:x∈ss) (hy:y∈ss):RowsIn ss (putR g x y v):=by
  refine ⟨fun a ha=>?_,fun a ha b hb=>?_⟩
  · by_cases c:a = x
    · subst c;rw [putR_at];exact put_nodup _ _ (h.nd a ha)
    · rw [putR_ne c];exact h.nd a ha
  · by_cases c:a = x
    · subst c
      rw [putR_at] at hb
      rcases (put_keys _ _ _ _).mp hb with e | e
      · rw [e];exact hy
      · exact h.inn a ha b e
    · rw [putR_ne c] at hb;exact h.inn a ha b hb
def inB (l:List Str):Str→Bool:=fun x=>decide (x∈l)
structure LeastS (ks:List Str) (c:Fl) (os ts:List Str) (amount:Int) (R:List Str):Prop where
  mem:∀ x∈R,x∈ks
  side:Side ks (inB os) (inB ts) (inB R)
  eq:leave ks c (inB R) = amount
  least:∀ S,Side ks (inB os) (inB ts) S→amount≤leave ks c S
  within:∀ S,Side ks (inB os) (inB ts) S→leave ks c S = amount→∀ x∈R,S x = true
theorem least_of {ks os ts:List Str} {c r:Fl} {amount:Int} {L L0:Ah} (hos:∀ x∈os,x∈ks) (f:Flow ks c (inB os) (inB ts) r amount) (b0:Bfs ks r os L0) (d0:Done ks r L0 L0.length) (h0:∀ x∈ts,x∉L0.map (·.1)) (b:Bfs ks r os L) (d:Done ks r L L.length):LeastS ks c os ts amount (L.map (·.1)):=by
  have sub:∀ x∈L.map (·.1),x∈L0.map (·.1):=fun x hx=>by
    have:=b.within (S:=inB (L0.map (·.1))) (fun y hy=>by simpa [inB] using b0.ones y hy) (fun x _ y hy h1 h2=>by
      have h1:x∈L0.map (·.1):=by simpa [inB] using h1
      simpa [inB] using d0.all x h1 y hy h2) x hx
    simpa [inB] using this
  have sd:Side ks (inB os) (inB ts) (inB (L.map (·.1))):=⟨fun x _ h=>by
    have h:x∈os:=by simpa [inB] using h
    simpa [inB] using b.ones x h,fun x _ h=>by
    have h:x∈ts:=by simpa [inB] using h
    have:x∉L.map (·.1):=fun z=>h0 x h (sub x z)
    simpa [inB] using this⟩
  have noroom:∀ x∈ks,∀ y∈ks,inB (L.map (·.1)) x = true→inB (L.map (·.1)) y = false→r x y = 0:=fun x hx y hy h1 h2=>by
    have h1:x∈L.map (·.1):=by simpa [inB] using h1
    have h2:y∉L.map (·.1):=by simpa [inB] using h2
    have n:=f.nn x hx y hy
    rcases Int.lt_or_eq_of_le n with z | z
    · exact absurd (d.all x h1 y hy z) h2
    · exact z.symm
  refine ⟨b.mem,sd,f.met sd noroom,fun S s=>f.weak s,fun S s e=>?_⟩
  have t:=f.tight s e
  exact b.within (fun x hx=>s.has x (hos x hx) (by simpa [inB] using hx)) fun x hx y hy h1 h2=>by
    cases q:S y with
    | true=>rfl
    | false =>
      have:=t x hx y hy h1 q
      omega
end L2
namespace L2
open PySem PySem.Spec PyProof.Rows PySem.SeqAt
theorem fold_rep (c:Nat):∀ (n:Nat) (acc:Array Nat),((List.replicate n #[c]).foldl (· ++ ·) acc).toList = acc.toList ++ List.replicate n c
  | 0,acc=>by simp
  | n + 1,acc=>by
    rw [List.replicate_succ,List.foldl_cons,fold_rep c n]
    simp [List.replicate_succ]
section
variable {X:Cx}
theorem op_mul_str:OpR X (binaryOp .Mult) (fun x y H Q=>∃ (z:Str) (c:Nat) (n:Int),x = .str z∧y = .int n∧cs z = [c]∧0≤n∧n≤1000∧Q (.str (ofC (List.replicate n.toNat c))) H):=by
  rintro pins s σ H x y v u Q I rx ry ⟨z,c,n,rfl,rfl,hc,h0,h1,q⟩
  obtain ⟨t,rfl⟩:=rx
  obtain ⟨t',rfl⟩:=ry
  have hz:z = ofC [c]:=by rw [← hc,ofC_cs]
  by_cases hn:n < 1
  · have:n = 0:=by omega
    subst this
    exact P.mul_str_none (by omega) (by omega) ⟨.str Str.empty,H,I.tok _,⟨_,rfl⟩,q⟩
  · have hlen:z.length = 1:=by rw [← cs_len,hc];rfl
    refine P.mul_str (by rw [decide_eq_false (by omega),decide_eq_false (by omega)];rfl) (fun _ _=>?_) (fun _ _=>?_) ?_
    · rw [hlen]
      have:(1:Int)≤(2 ^ 63 - 1) / n:=(Int.le_ediv_iff_mul_le (by omega)).mpr (by omega)
      show ¬ ((1:Int) > _)
      omega
    · rw [hlen,Nat.one_mul]
      exact decide_eq_false (Nat.not_lt.mpr (sz (by omega)))
    · rw [if_neg hn]
      by_cases h1':(n == 1 || z.length == 0) = true
      · rw [if_pos h1']
        have:n = 1:=by simpa [hlen] using h1'
        subst this
        have e:ofC (List.replicate (1:Int).toNat c) = z:=by rw [hz];rfl
        rw [e] at q
        exact ⟨.str z,H,I,⟨_,rfl⟩,q⟩
      · rw [if_neg h1']
        have e:(⟨(List.replicate n.toNat z.cps).foldl (· ++ ·) #[]⟩:Str) = ofC (List.replicate n.toNat c):=by
          apply Str.ext'
          have hzc:z.cps = #[c]:=by rw [hz]
          rw [hzc,fold_rep]
          simp
        rw [e]
        refine ⟨?_,⟨.str _,H,I.tok _,⟨_,rfl⟩,q⟩⟩
        rw [← cs_len,cs_ofC,List.length_replicate]
        exact sz (by omega)
end
def Iti (a:Addr) (o:Obj) (kvs:List (Key×V)):It :=
  ⟨fun i H=>H a = some (.frz o (.dK kvs))∧i < kvs.length,fun i H x H'=>∃ p k v,H p = none∧x = .ref p∧kvs[i]? = some (k,v)∧H' = upd H p (.tup [kV k,v]),fun i H=>H a = some (.frz o (.dK kvs))∧kvs.length≤i⟩
def tForI (te:TE) (g:TG) (tb:TS):TS:=fun D σ H=>te σ H fun x H1=>∃ a kvs,x = .ref a∧Rd H1 a (.dK kvs)∧∀ o H2,Fzn a o kvs H1 H2→LoopVC (Iti a o kvs) g tb (thawE a o kvs H1 D) σ H2
section
variable {X:Cx} {elts:List Expr} {x1:Nat} {tpos:Pos}
end
end L2
namespace L2
open PySem PySem.Spec PyProof.Rows PySem.SeqAt
theorem vals_app:∀ {xs ys:List V} {us vs:List Value},Vals xs us→Vals ys vs→Vals (xs ++ ys) (us ++ vs)
  | _,_,_,_,.nil,h=>h
  | _,_,_,_,.cons r t,h=>.cons r (vals_app t h)
theorem vals_rev:∀ {xs:List V} {us:List Value},Vals xs us→Vals xs.reverse us.reverse
  | _,_,.nil=>.nil
  | _,_,.cons r t=>by
    rw [List.reverse_cons,List.reverse_cons]
    exact vals_app (vals_rev t) (.cons r .nil)
section
variable {prog:Program} {w:World} {A:Around} {E:Value→Shared→Prop} {s:Shared} {r l:Addr}
theorem lri_no_len:typeLookup (.type "list_reverseiterator") "__len__" = pure none:=by rw [typeLookup_type,builtinLookup_eq_fast];kernel_rfl
theorem lri_hint:typeLookup (.type "list_reverseiterator") "__length_hint__" = pure (some (.builtin "list_reverseiterator.__length_hint__")):=by rw [typeLookup_type,builtinLookup_eq_fast];kernel_rfl
theorem hint_rev {Q:Bool→Shared→Prop} (hT:s.TypeIs (.ref r) "list_reverseiterator") (h:Q false s):wpAny (model prog w) A (Builtin.List.listLengthHint (.ref r)) Q E s:=by
  unfold Builtin.List.listLengthHint
  refine wpAny_bind (wpAny_specialOf hT lri_no_len ?_)
  refine wpAny_bind (wpAny_specialOf hT lri_hint ?_)
  generalize hj:("list_reverseiterator.__length_hint__":String) = hintId
  wp_delta
  rw [show splitId hintId = some ("list_reverseiterator","__length_hint__") by rw [← hj];decide +kernel]
  rw [← hj]
  refine wpAny_bind (wpAny_isInstance (T:="list_reverseiterator") (b:=true) hT (by rw [isSubtype_type];kernel_rfl) ?_)
  refine wpAny_ite_split (fun z=>absurd z (by decide)) (fun _=>?_)
  refine wpAny_ite_split (fun _=>?_) (fun z=>absurd (by decide +kernel) z)
  refine wpAny_ite_split (fun z=>absurd z (by decide +kernel)) (fun _=>?_)
  exact wpAny_pure h
theorem call_list_rev {items:Array Value} {Q:Value→Shared→Prop} (hh:A.handled = none) (hl:s.heap.IsList l items) (hit:s.heap.IsRevIter r l ((items.size:Int) - 1)) (hrl:l≠r) (hn:items.size≤sizeLine)
    (hQ:∀ h' tk acc c,(∀ b o,b≠r→s.heap.get? b = some o→h'.get? b = some o)→h'.get? s.heap.objs.size = some { cls:=.type "list",dict:=none,data:=.seq acc c,slots:=#[] }→acc.size = items.size→(∀ j v,acc[j]? = some v→items[items.size - 1 - j]? = some v) →
      Q (.ref s.heap.objs.size) { s with heap:=h',toks:=tk }):wpAny (model prog w) A (call (.type "list") [.ref r]) Q E s:=by
  have lr:r < s.heap.objs.size:=by obtain ⟨o,ho,_⟩:=hit;exact Heap.lt_size ho
  have ll:l < s.heap.objs.size:=by obtain ⟨o,ho,_⟩:=hl;exact Heap.lt_size ho
  refine callType_codes (Q₁:=fun ob z=>ob = .ref s.heap.objs.size∧z = { s with heap:=s.heap.push { cls:=.type "list",data:=.seq #[] } })
    PySem.F.called_list (PySem.F.typeCall_list_1 _) PySem.F.entry_list_init (code_list_new _ ⟨rfl,rfl⟩) fun ob z hob=>?_
  obtain ⟨rfl,rfl⟩:=hob
  have new0:(s.heap.push { cls:=.type "list",data:=.seq #[] }).get? s.heap.objs.size = some { cls:=.type "list",data:=.seq #[] }:=Heap.get?_push_size _ rfl
  refine ⟨⟨_,new0,rfl⟩,PySem.F.args_list_init_2 _ _,?_⟩
  refine wpAny_bind ?_
  unfold Builtin.List.listItems
  refine wpAny_bind (wpAny_seqItems new0 rfl (wpAny_pure ?_))
  refine wpAny_bind (wpAny_updateSeq new0 rfl ?_)
  have new1:=Heap.get?_update_self (Obj.mapSeq (fun _=>(#[]:Array Value))) new0 rfl
  have kept1:∀ b o,b≠s.heap.objs.size→s.heap.get? b = some o→((s.heap.push { cls:=.type "list",data:=.seq #[] }).update s.heap.objs.size (Obj.mapSeq (fun _=>(#[]:Array Value)))).get? b = some o :=
    fun b o hb e=>(Heap.get?_update_other _ _ (Ne.symm hb)).trans (Heap.get?_push_of_some _ e)
  have hit1:=hit.at fun o e=>kept1 r o (Nat.ne_of_lt lr) e
  have hl1:=hl.at fun o e=>kept1 l o (Nat.ne_of_lt ll) e
  refine wpAny_bind (wpAny_letGo ?_)
  generalize ((s.heap.push { cls:=.type "list",data:=.seq #[] }).update s.heap.objs.size (Obj.mapSeq (fun _=>(#[]:Array Value)))) = h1 at new1 kept1 hit1 hl1
  have hT:Shared.TypeIs { s with heap:=h1 } (.ref r) "list_reverseiterator":=hit1.typeIs (s:={ s with heap:=h1 })
  unfold Builtin.List.listExtendWith
  refine wpAny_bind (wpAny_typeOf (T:="list_reverseiterator") hT ?_)
  have e1:Builtin.List.listSameRef (.ref s.heap.objs.size) (.ref r) = false:=by simp [Builtin.List.listSameRef,Nat.ne_of_gt lr]
  have e2:(Value.type "list_reverseiterator" == Value.type "list") = false:=by decide
  have e3:(Value.type "list_reverseiterator" == Value.type "tuple") = false:=by decide
  simp only [e1,e2,e3,Bool.or_false,Bool.false_eq_true,if_false]
  refine wpAny_bind (wpAny_pyIter_revIter (s:={ s with heap:=h1 }) hit1 ?_)
  refine wpAny_bind (wpAny_holding (hint_rev hT ?_))
  refine wpAny_ite_split (fun q=>absurd q (by decide)) (fun _=>?_)
  refine wpAny_pure ⟨plainId_quiet PySem.F.plain_extend_loop _,?_⟩
  have W:=Walks.listRev (prog:=prog) (w:=w) (A:=A.in1.in1) hh r l hrl items
  have sf:s.heap.objs.size∉[r,l]:=by
    simp only [List.mem_cons,List.not_mem_nil,or_false,not_or]
    exact ⟨Nat.ne_of_gt lr,Nat.ne_of_gt ll⟩
  have st0:0≤items.size∧h1.IsRevIter r l ((items.size:Int) - 1 - ((0:Nat):Int))∧h1.IsList l items:=⟨Nat.zero_le _,by simpa using hit1,hl1⟩
  refine codeAny_extend_loopS W.toS hn s.heap.objs.size sf .none items.size 0 _ #[] _ rfl (Nat.zero_le _) st0 new1 (ItemsOf.nil _) fun z acc c hm hS hacc=>?_
  rw [Moved.eq_with hm]
  have keep2:∀ b o,b≠s.heap.objs.size→b≠r→h1.get? b = some o→z.heap.get? b = some o:=fun b o h1 h2 e=>hm.heap b o (by simp [h1,h2]) e
  exact ⟨rfl,hQ z.heap z.toks acc c (fun b o hb e=>keep2 b o (Nat.ne_of_lt (Heap.lt_size e)) hb (kept1 b o (Nat.ne_of_lt (Heap.lt_size e)) e)) hS hacc.1 hacc.2⟩
end
section
variable {X:Cx}
def tListRev (K:PySem.W.Frag) (ta:TA):TE:=fun σ H Q=>ta σ H fun vs H1=>∃ l xs,vs = [.ref l]∧SqL K H1 l xs∧∀ p,H1 p = none→Q (.ref p) (upd H1 p (.lst xs.reverse))
theorem pe_listrev {a:Expr} {ta:TA} {p1 p2 pos pos2:Pos} (hc:X.calm = true) (hg1:Gl X "list") (hm1:X.mg "list" = none) (hg2:Gl X "reversed") (hm2:X.mg "reversed" = none) (ha:PA X [a] ta)
    (hs:starEach [a] X.env = [(false,eval a X.env)]:=by rfl) (hs2:starEach [Expr.Call (.Name "reversed" p2) [a] [] pos2] X.env = [(false,eval (.Call (.Name "reversed" p2) [a] [] pos2) X.env)]:=by rfl) :
    PE X (.Call (.Name "list" p1) [.Call (.Name "reversed" p2) [a] [] pos2] [] pos) (tListRev X.K ta):=by
  intro pins s σ H Q I h
  refine wpAny_Call_Name_kw (ld_blt I hg1 hm1 boot_ty_list ?_)
  refine PyProof.Rows.callWith_type1 ?_ hs2 rfl
  rw [hs2]
  show wpAny _ _ (spliced ((false,eval (.Call (.Name "reversed" p2) [a] [] pos2) X.env) :: backTo pos (starEach [] X.env))) _ _ s
  refine Calls.spliced_cons ?_
  refine Call_ (ld_blt I hg2 hm2 boot_ty_reversed (PyProof.Rows.callWith_type1 (thn (ha pos2 pins s σ H _ I h) fun us s1 ⟨vs,H1,I1,r1,q1⟩=>?_) hs rfl))
  obtain ⟨l,xs,e,hq,q⟩:=q1
  subst e
  obtain ⟨u,rfl,ru⟩:=vals1 r1
  cases ru
  obtain ⟨its,rv,pl,hz⟩:=I1.list hq
  have hlen:=rv.length
  have ll:l < s1.heap.objs.size:=by obtain ⟨o,ho,_⟩:=pl.isList;exact Heap.lt_size ho
  refine call_reversed_list pl.isList (Calls.spliced_nil ?_)
  have I2:Inv X pins σ H1 { s1 with heap:=s1.heap.push (revObj l ((its.toArray.size:Int) - 1)),toks:=s1.toks }:=I1.kept (t':=s1.toks) fun b o e=>Heap.get?_push_of_some _ e
  have fp:=I1.fpOk (Nat.le_refl s1.heap.objs.size) (I1.hok.fresh (Nat.le_refl s1.heap.objs.size))
  have hsz:(s1.heap.push (revObj l ((its.toArray.size:Int) - 1))).objs.size = s1.heap.objs.size + 1:=Heap.size_push ..
  refine call_list_rev (s:={ s1 with heap:=s1.heap.push (revObj l ((its.toArray.size:Int) - 1)) }) (r:=s1.heap.objs.size) (l:=l) (items:=its.toArray) (I1.ok.hd hc) (pl.isList.at fun o e=>Heap.get?_push_of_some _ e) ⟨_,Heap.get?_push_size _ rfl,rfl,rfl⟩ (Nat.ne_of_lt ll) (by rw [List.size_toArray];omega) fun h' tk acc c hk hS ha1 ha2=>?_
  have hn:H1 (s1.heap.push (revObj l ((its.toArray.size:Int) - 1))).objs.size = none:=I1.hok.fresh (by rw [hsz];exact Nat.le_succ _)
  have hvals:Vals xs.reverse acc.toList:=by
    have e:acc.toList = its.reverse:=by
      apply List.ext_getElem?
      intro j
      by_cases hj:j < its.length
      · have hj':j < acc.size:=by rw [ha1,List.size_toArray];exact hj
        have e1:acc.toList[j]? = some acc[j]:=by rw [Array.getElem?_toList];exact Array.getElem?_eq_getElem hj'
        have e2:=ha2 j acc[j] (Array.getElem?_eq_getElem hj')
        rw [e1,List.getElem?_reverse hj]
        simpa using e2.symm
      · rw [List.getElem?_eq_none (by rw [Array.length_toList,ha1,List.size_toArray];omega),List.getElem?_eq_none (by rw [List.length_reverse];omega)]
    rw [e]
    exact vals_rev rv
  refine ⟨.ref _,_,?_,rfl,q _ hn⟩
  have I3:Inv X pins σ (upd H1 (s1.heap.push (revObj l ((its.toArray.size:Int) - 1))).objs.size (.lst xs.reverse)) { s1 with heap:=(s1.heap.push (revObj l ((its.toArray.size:Int) - 1))).push { cls:=.type "list",data:=.seq acc c },toks:=s1.toks } :=
    I2.laid (t':=s1.toks) (fun b o e=>Heap.get?_push_of_some _ e) (Nat.le_refl _) ⟨by rw [List.length_reverse];exact hz,acc.toList,c,hvals,by rw [Array.toArray_toList];exact Heap.get?_push_size _ rfl⟩
  have hS:h'.get? (s1.heap.push (revObj l ((its.toArray.size:Int) - 1))).objs.size = some { cls:=.type "list",data:=.seq acc c }:=hS
  have hk:∀ b o,b≠s1.heap.objs.size→(s1.heap.push (revObj l ((its.toArray.size:Int) - 1))).get? b = some o→h'.get? b = some o:=hk
  have step:∀ b o,b∉[s1.heap.objs.size]→((s1.heap.push (revObj l ((its.toArray.size:Int) - 1))).push { cls:=.type "list",data:=.seq acc c }).get? b = some o→h'.get? b = some o:=fun b o hb e=>by
    have hb:b≠s1.heap.objs.size:=by simpa using hb
    rcases Heap.get?_push_cases e with ⟨z1,z2⟩ | z
    · rw [z1,z2];exact hS
    · exact hk b o hb z
  have fps:∀ b∈[s1.heap.objs.size],FpOk X pins (upd H1 (s1.heap.push (revObj l ((its.toArray.size:Int) - 1))).objs.size (.lst xs.reverse)) b:=fun b hb=>by
    have e:b = s1.heap.objs.size:=by simpa using hb
    subst e
    refine ⟨?_,fp.2⟩
    rw [upd_ne (by rw [hsz];exact Nat.ne_of_lt (Nat.lt_succ_self _))]
    exact fp.1
  have I4:Inv X pins σ (upd H1 (s1.heap.push (revObj l ((its.toArray.size:Int) - 1))).objs.size (.lst xs.reverse)) { s1 with heap:=h',toks:=tk }:=Inv.turnedL (s:={ s1 with heap:=(s1.heap.push (revObj l ((its.toArray.size:Int) - 1))).push { cls:=.type "list",data:=.seq acc c },toks:=s1.toks }) (h':=h') (fp:=[s1.heap.objs.size]) (t':=tk) I3 step fps
  exact I4
end
end L2
namespace L2
open PySem PySem.Spec PyProof.Rows
def nmF (c:Int) (k:Nat):Str :=
  if c % 3 = 0 then ofC (List.replicate (c / 24 % (1 + c / 3 % 8)).toNat 109 ++ [97 + ((c / 192 + 11 * (k:Int)) % 26).toNat] ++ List.replicate (1 + c / 3 % 8 - c / 24 % (1 + c / 3 % 8) - 1).toNat 109)
  else if c % 3 = 1 then ofC ([97 + ((c / 192 + 11 * (k:Int)) % 26).toNat] ++ List.replicate (((k:Int) * k + c / 192) % 8).toNat 109)
  else ofC ([97 + ((c / 192 + (k:Int) / 4) % 26).toNat] ++ List.replicate (3 - (k:Int) % 4).toNat 98)
theorem nmF_inj (c:Int) {i j:Nat} (hi:i < 26) (hj:j < 26) (h:nmF c i = nmF c j):i = j:=by
  have h:=congrArg cs h
  unfold nmF at h
  have key:((c / 192 + 11 * (i:Int)) % 26).toNat = ((c / 192 + 11 * (j:Int)) % 26).toNat→i = j:=fun e=>by omega
  by_cases h0:c % 3 = 0
  · rw [if_pos h0,if_pos h0,cs_ofC,cs_ofC,List.append_assoc,List.append_assoc] at h
    have h:=List.append_cancel_left h
    have h:=(List.cons.inj h).1
    exact key (by omega)
  · rw [if_neg h0,if_neg h0] at h
    by_cases h1:c % 3 = 1
    · rw [if_pos h1,if_pos h1,cs_ofC,cs_ofC] at h
      have h:=(List.cons.inj h).1
      exact key (by omega)
    · rw [if_neg h1,if_neg h1,cs_ofC,cs_ofC] at h
      have e1:=(List.cons.inj h).1
      have e2:=congrArg List.length h
      simp only [List.length_append,List.length_replicate,List.length_cons,List.length_nil] at e2
      omega
theorem nmF_nodup (c:Int) {n:Nat} (hn:n≤26):((List.range n).map (nmF c)).Nodup:=by
  rw [List.nodup_iff_pairwise_ne]
  rw [List.pairwise_map]
  refine List.Pairwise.imp_of_mem (fun ha hb hne h=>?_) (List.nodup_range (n:=n))
  have ha:=List.mem_range.mp ha
  have hb:=List.mem_range.mp hb
  exact hne (nmF_inj c (by omega) (by omega) h)
end L2
namespace L2
open PySem PySem.Spec PyProof.Rows
theorem NetAt.add3 {H:Hp} {a b:Addr} {bs:Outer} {f:Str→Row} {x:Str} (n:NetAt H a bs f) (hx:x∉bs.map (·.1)) (hb:H b = some (.dK (encI (f x)))) (hba:b≠a) (hbn:∀ q∈bs,q.2≠b) (hl:bs.length < sizeLine) :
    DPut H a (.str x) (.ref b) (upd H a (.dK (encO (bs ++ [(x,b)]))))∧NetAt (upd H a (.dK (encO (bs ++ [(x,b)])))) a (bs ++ [(x,b)]) f:=by
  have p:=DPut.k (k:=Sum.inr x) (v:=.ref b) n.out (by unfold encO;rw [List.length_map];exact hl)
  rw [encO_put hx] at p
  refine ⟨p,upd_same,fun q hq=>?_,?_,?_⟩
  · rcases List.mem_append.mp hq with c | c
    · have h1:q.2≠a:=fun e=>(List.nodup_cons.mp n.nd).1 (e ▸ List.mem_map.mpr ⟨_,c,rfl⟩)
      rw [upd_ne h1];exact n.inn q c
    · rw [List.mem_singleton.mp c]
      show upd _ _ _ b = some (.dK (encI (f x)))
      rw [upd_ne hba];exact hb
  · rw [List.map_append];exact nd_snoc n.ks hx
  · rw [List.map_append,← List.cons_append]
    refine nd_snoc n.nd (fun h=>?_)
    rcases List.mem_cons.mp h with e | e
    · exact hba e
    · obtain ⟨q,hq,e⟩:=List.mem_map.mp e
      exact hbn q hq e
structure ArcOk (ks:List Str) (g:Str→Row):Prop where
  nd:∀ x,((g x).map (·.1)).Nodup
  inn:∀ x,∀ y∈(g x).map (·.1),y∈ks
  nn:∀ x y v,look (g x) y = some v→0≤v
def rowOut (l:Row) (ss:List Str):Int:=sumL l fun e=>if e.1∈ss then 0 else e.2
def amtF (g:Str→Row) (ss:List Str):Int:=sumL ss fun x=>rowOut (g x) ss
theorem sumL_sub' {ks:List Str} (nk:ks.Nodup) (h:Str→Int):∀ {l:List Str},l.Nodup→(∀ x∈l,x∈ks)→sumL ks (fun x=>if x∈l then h x else 0) = sumL l h
  | [],_,_=>sumL_zero fun x _=>by simp
  | a :: l,nd,sub=>by
    obtain ⟨n1,n2⟩:=List.nodup_cons.mp nd
    rw [sumL_cons,← sumL_sub' nk h n2 fun x hx=>sub x (List.mem_cons_of_mem _ hx)]
    have e:∀ x∈ks,(if x∈a :: l then h x else 0) = (if x = a then h a else 0) + (if x∈l then h x else 0):=fun x _=>by
      by_cases c:x = a
      · subst c
        rw [if_pos (by simp),if_pos rfl,if_neg n1];omega
      · rw [if_neg c]
        by_cases d:x∈l
        · rw [if_pos (List.mem_cons_of_mem _ d),if_pos d];omega
        · rw [if_neg (by simp [c,d]),if_neg d];rfl
    rw [sumL_congr e,sumL_add,sumL_one nk (sub a (by simp))]
theorem sumL_map {α β:Type} (f:α→β) (g:β→Int) (l:List α):sumL (l.map f) g = sumL l fun a=>g (f a):=by
  unfold sumL;rw [List.map_map];rfl
theorem rowOut_eq {ks:List Str} {g:Str→Row} (nk:ks.Nodup) (r:RowsIn ks g) {x:Str} (hx:x∈ks) (ss:List Str):rowOut (g x) ss = sumL ks fun y=>if y∈ss then 0 else rc g x y:=by
  have h1:=sumL_sub' nk (fun y=>if y∈ss then 0 else rc g x y) (r.nd x hx) (r.inn x hx)
  have h2:sumL ks (fun y=>if y∈ss then 0 else rc g x y) = sumL ks (fun y=>if y∈(g x).map (·.1) then (if y∈ss then 0 else rc g x y) else 0):=sumL_congr fun y _=>by
    by_cases c:y∈(g x).map (·.1)
    · rw [if_pos c]
    · rw [if_neg c]
      have:rc g x y = 0:=by unfold rc;rw [look_none.mpr c];rfl
      rw [this];split <;> rfl
  rw [h2,h1,sumL_map]
  unfold rowOut
  refine sumL_congr fun e he=>?_
  have:rc g x e.1 = e.2:=by unfold rc;rw [mem_look (r.nd x hx) (v:=e.2) (by exact he)];rfl
  rw [this]
theorem sumL_snoc {α:Type} (l:List α) (a:α) (g:α→Int):sumL (l ++ (some a).toList) g = sumL l g + g a:=by simp [sumL]
abbrev Sds:=List (Addr×List Str)
def sdV (zs:Sds):List V:=zs.map fun z=>V.ref z.1
structure SidesOk (ks os ts:List Str) (i:Nat) (zs:Sds):Prop where
  nd:∀ z∈zs,z.2.Nodup
  sub:∀ z∈zs,∀ x∈z.2,x∈os∨(x∈ks.take i∧x∉ts)
  has:∀ z∈zs,∀ x∈os,x∈z.2
  all:∀ S:Str→Bool,(∀ x∈ts,S x = false)→∃ z∈zs,∀ x,x∈z.2 ↔ (x∈os∨(x∈ks.take i∧S x = true))
theorem take_snoc {ks:List Str} {i:Nat} {k:Str} (hk:ks[i]? = some k) (x:Str):x∈ks.take (i + 1) ↔ x∈ks.take i∨x = k:=by
  rw [List.take_add_one,hk,List.mem_append];simp
end L2
namespace L2
open PySem PySem.Spec PyProof.Rows
def innB (g:Str→Row) (least:Int) (zs:Sds) (x:Str):Bool:=zs.all fun z=>decide (amtF g z.2 = least→x∈z.2)
def DueOk (ks os ts:List Str) (g:Str→Row) (least:Int) (inner:List Str):Prop:=∃ zs:Sds,SidesOk ks os ts ks.length zs∧(∃ z∈zs,amtF g z.2 = least)∧(∀ z∈zs,least≤amtF g z.2)∧inner = (sortS ks).filter (innB g least zs)
theorem inB_iff {l:List Str} {x:Str}:inB l x = true ↔ x∈l:=by simp [inB]
theorem sumL_perm {α:Type} {l m:List α} (h:l.Perm m) (f:α→Int):sumL l f = sumL m f:=by
  induction h with
  | nil=>rfl
  | cons a _ ih=>rw [sumL_cons,sumL_cons,ih]
  | swap a b l=>rw [sumL_cons,sumL_cons,sumL_cons,sumL_cons];omega
  | trans _ _ h1 h2=>rw [h1,h2]
theorem leave_rev (ks:List Str) (c:Fl) (S:Str→Bool):leave ks.reverse c S = leave ks c S:=by
  unfold leave
  rw [sumL_perm (List.reverse_perm ks)]
  exact sumL_congr fun x _=>sumL_perm (List.reverse_perm ks) _
theorem look_rev {l:Row} (nd:(l.map (·.1)).Nodup) (y:Str):look l.reverse y = look l y:=by
  cases h:look l y with
  | none =>
    refine look_none.mpr fun hm=>look_none.mp h ?_
    rw [List.map_reverse] at hm;exact List.mem_reverse.mp hm
  | some v =>
    refine mem_look ?_ (List.mem_reverse.mpr (look_mem h))
    rw [List.map_reverse];exact nd_rev nd
theorem LeastS.rev {ks os ts:List Str} {c c':Fl} {amount:Int} {R:List Str} (h:LeastS ks.reverse c' os.reverse ts.reverse amount R) (e:c' = c):LeastS ks c os ts amount R:=by
  subst e
  have e1:inB os.reverse = inB os:=by funext x;simp [inB]
  have e2:inB ts.reverse = inB ts:=by funext x;simp [inB]
  have sd:∀ S,Side ks.reverse (inB os.reverse) (inB ts.reverse) S ↔ Side ks (inB os) (inB ts) S:=fun S=>by
    rw [e1,e2]
    exact ⟨fun s=>⟨fun x hx=>s.has x (List.mem_reverse.mpr hx),fun x hx=>s.lacks x (List.mem_reverse.mpr hx)⟩,fun s=>⟨fun x hx=>s.has x (List.mem_reverse.mp hx),fun x hx=>s.lacks x (List.mem_reverse.mp hx)⟩⟩
  refine ⟨fun x hx=>List.mem_reverse.mp (h.mem x hx),(sd _).mp h.side,?_,fun S hS=>?_,fun S hS hq=>?_⟩
  · rw [← leave_rev];exact h.eq
  · rw [← leave_rev];exact h.least S ((sd S).mpr hS)
  · exact h.within S ((sd S).mpr hS) (by rw [leave_rev];exact hq)
end L2
namespace L2
open PySem PySem.Spec PyProof.Rows
theorem flats_strs:∀ ss:List Str,D.flats (ss.map D.str) = true
  | []=>rfl
  | s :: r=>by
    show (D.flat (.str s) && D.flats (r.map D.str)) = true
    rw [flats_strs r];rfl
theorem deps_strs:∀ ss:List Str,D.deps (ss.map D.str)≤1
  | ss=>deps_map (m:=1) (fun _=>by simp [D.dep]) ss
structure EndsOk (x0 xl:Str) (ms:List Str) (i:Nat) (os ts:List Str):Prop where
  no:os.Nodup
  o:∀ x∈os,x = x0∨x∈ms.take i
  t:∀ x∈ts,x = xl∨x∈ms.take i
  dj:∀ x∈os,x∉ts
  ol:os.length≤i + 1
  tl:ts.length≤i + 1
section
variable {x0 xl k:Str} {ms os ts:List Str} {i:Nat}
end
end L2
namespace L2
open PySem PySem.Spec PyProof.Rows
section
variable {α:Type}
def itN (f:α→α):Nat→α→α
  | 0,a=>a
  | n + 1,a=>f (itN f n a)
theorem itN_fix {f:α→α} {n:Nat} {a:α} (h:f (itN f n a) = itN f n a):∀ d,itN f (n + d) a = itN f n a
  | 0=>rfl
  | d + 1=>by
    show f (itN f (n + d) a) = _
    rw [itN_fix h d];exact h
theorem itN_fix' {f:α→α} {n m:Nat} {a:α} (h:f (itN f n a) = itN f n a) (hm:n≤m):itN f m a = itN f n a:=by
  obtain ⟨d,rfl⟩:=Nat.exists_eq_add_of_le hm
  exact itN_fix h d
theorem itN_one {f:α→α} {n m:Nat} {a:α} (h:f (itN f n a) = itN f n a) (h':f (itN f m a) = itN f m a):itN f n a = itN f m a:=by
  rcases Nat.le_total n m with c | c
  · exact (itN_fix' h c).symm
  · exact itN_fix' h' c
end
def newB (r:Fl) (L:Ah) (x y:Str):Bool:=decide (0 < r x y) && !decide (y∈L.map (·.1))
def bfsStep (ks:List Str) (r:Fl) (L:Ah) (i:Nat):Ah:=match L[i]? with
  | none=>L
  | some e=>L ++ ((sortS ks).filter (newB r L e.1)).map fun y=>(y,some e.1)
def bfsN (ks:List Str) (r:Fl) (os:List Str):Nat→Ah
  | 0=>(sortS os).map fun x=>(x,none)
  | i + 1=>bfsStep ks r (bfsN ks r os i) i
theorem bfsN_done {ks os:List Str} {r:Fl} {L:Ah} {i:Nat} (h:L = bfsN ks r os i) (hl:L.length≤i):∀ d,bfsN ks r os (i + d) = L
  | 0=>h.symm
  | d + 1=>by
    show bfsStep ks r (bfsN ks r os (i + d)) (i + d) = L
    rw [bfsN_done h hl d]
    unfold bfsStep
    rw [List.getElem?_eq_none (by omega)]
theorem sort_filter {ks keys:List Str} (nk:ks.Nodup) (ny:keys.Nodup) (sub:∀ x∈keys,x∈ks) {p:Str→Bool} (hp:∀ x∈ks,p x = true→x∈keys):(sortS keys).filter p = (sortS ks).filter p:=by
  have h1:(sortS keys).filter p = sortS ((sortS ks).filter p):=sortS_eq ((List.perm_ext_iff_of_nodup (List.Pairwise.filter _ (sortS_nodup ny)) (List.Pairwise.filter _ (sortS_nodup nk))).mpr fun x=>by
    rw [List.mem_filter,List.mem_filter,mem_sortS,mem_sortS]
    exact ⟨fun ⟨a,b⟩=>⟨sub x a,b⟩,fun ⟨a,b⟩=>⟨hp x a b,b⟩⟩) (List.Pairwise.filter _ (sortS_pw keys))
  have h2:(sortS ks).filter p = sortS ((sortS ks).filter p):=sortS_eq (List.Perm.refl _) (List.Pairwise.filter _ (sortS_pw ks))
  rw [h1,← h2]
def stepW (L:Ah):List Str→List Str
  | []=>[]
  | x :: w=>match ahOf L x with
    | some (some y)=>y :: x :: w
    | _=>x :: w
def shortF (ks:List Str) (r:Fl) (os ts:List Str):List Str :=
  match ((bfsN ks r os 12).map (·.1)).filter (fun x=>decide (x∈ts)) with
  | []=>[]
  | x :: _=>itN (stepW (bfsN ks r os 12)) 12 [x]
def steps (r:Fl) (w:List Str):List Int:=(w.zip (w.drop 1)).map fun p=>r p.1 p.2
def leastF (r:Fl) (w:List Str):Int:=match steps r w with
  | []=>0
  | a :: l=>l.foldl min a
theorem foldl_min:∀ (l:List Int) (a:Int),(l.foldl min a = a∨l.foldl min a∈l)∧l.foldl min a≤a∧∀ b∈l,l.foldl min a≤b
  | [],a=>⟨.inl rfl,Int.le_refl _,fun _ h=>absurd h (by simp)⟩
  | b :: l,a=>by
    obtain ⟨h1,h2,h3⟩:=foldl_min l (min a b)
    rw [List.foldl_cons]
    refine ⟨?_,by omega,fun c hc=>?_⟩
    · rcases h1 with h1 | h1
      · rcases Int.le_total a b with d | d
        · rw [h1,Int.min_eq_left d];exact .inl rfl
        · rw [h1,Int.min_eq_right d];exact .inr (by simp)
      · exact .inr (List.mem_cons_of_mem _ h1)
    · rcases List.mem_cons.mp hc with e | e
      · rw [e];omega
      · exact h3 c e
theorem leastF_eq {r:Fl} {w:List Str} {m:Int} (h1:m∈steps r w) (h2:∀ n∈steps r w,m≤n):m = leastF r w:=by
  unfold leastF
  cases hs:steps r w with
  | nil=>rw [hs] at h1;simp at h1
  | cons a l =>
    rw [hs] at h1 h2
    obtain ⟨g1,g2,g3⟩:=foldl_min l a
    have up:l.foldl min a≤m:=by
      rcases List.mem_cons.mp h1 with e | e
      · rw [e];exact g2
      · exact g3 m e
    have dn:m≤l.foldl min a:=by
      rcases g1 with e | e
      · rw [e];exact h2 a (by simp)
      · exact h2 _ (List.mem_cons_of_mem _ e)
    show m = l.foldl min a
    omega
theorem steps_mem {r:Fl} {w:List Str} {n:Int}:n∈steps r w ↔ ∃ i x y,w[i]? = some x∧w[i + 1]? = some y∧n = r x y:=by
  unfold steps
  rw [List.mem_map]
  constructor
  · rintro ⟨⟨x,y⟩,hm,rfl⟩
    obtain ⟨i,hi⟩:=List.getElem?_of_mem hm
    rw [List.getElem?_zip_eq_some] at hi
    obtain ⟨h1,h2⟩:=hi
    rw [List.getElem?_drop] at h2
    exact ⟨i,x,y,h1,by rw [Nat.add_comm];exact h2,rfl⟩
  · rintro ⟨i,x,y,h1,h2,rfl⟩
    refine ⟨(x,y),List.mem_of_getElem? (i:=i) ?_,rfl⟩
    rw [List.getElem?_zip_eq_some,List.getElem?_drop]
    exact ⟨h1,by rw [Nat.add_comm];exact h2⟩
def stepP (ks os ts:List Str) (s:Fl×Int):Fl×Int:=match shortF ks s.1 os ts with
  | []=>s
  | x :: w=>(pushN s.1 (leastF s.1 (x :: w)) (x :: w) w.length,s.2 + leastF s.1 (x :: w))
end L2
namespace L2
open PySem PySem.Spec PyProof.Rows
def stL (w:List Str):List (Str×Str):=w.zip (w.drop 1)
theorem stL_get {w:List Str} {i:Nat} {x y:Str}:(stL w)[i]? = some (x,y) ↔ w[i]? = some x∧w[i + 1]? = some y:=by
  unfold stL
  rw [List.getElem?_zip_eq_some,List.getElem?_drop,Nat.add_comm]
theorem stL_len (w:List Str):(stL w).length = w.length - 1:=by
  unfold stL
  rw [List.length_zip,List.length_drop];omega
theorem stL_mem {w:List Str} {x y:Str}:(x,y)∈stL w ↔ ∃ i,w[i]? = some x∧w[i + 1]? = some y:=by
  constructor
  · intro h
    obtain ⟨i,hi⟩:=List.getElem?_of_mem h
    exact ⟨i,stL_get.mp hi⟩
  · rintro ⟨i,h⟩
    exact List.mem_of_getElem? (stL_get.mpr h)
theorem stL_new {w:List Str} (nd:w.Nodup) {i:Nat} {x y:Str} (h:(stL w)[i]? = some (x,y)):(x,y)∉(stL w).take i:=fun m=>by
  obtain ⟨j,hj⟩:=List.getElem?_of_mem m
  rw [List.getElem?_take] at hj
  by_cases c:j < i
  · rw [if_pos c] at hj
    have:=nd_ix nd (stL_get.mp hj).1 (stL_get.mp h).1
    omega
  · rw [if_neg c] at hj;cases hj
def subI (D:Fl) (m:Int) (w:List Str) (i:Nat):Fl:=fun a b=>if (a,b)∈(stL w).take i then D a b - m else D a b
theorem subI_succ {D:Fl} {m:Int} {w:List Str} (nd:w.Nodup) {i:Nat} {x y:Str} (h:(stL w)[i]? = some (x,y)) (a b:Str):subI D m w (i + 1) a b = if a = x∧b = y then subI D m w i a b - m else subI D m w i a b:=by
  unfold subI
  have hm:(a,b)∈(stL w).take (i + 1) ↔ (a,b)∈(stL w).take i∨(a = x∧b = y):=by
    rw [List.take_add_one,h,List.mem_append]
    simp
  by_cases e:a = x∧b = y
  · rw [if_pos (hm.mpr (.inr e)),if_pos e,if_neg (by rw [e.1,e.2];exact stL_new nd h)]
  · rw [if_neg e]
    by_cases c:(a,b)∈(stL w).take i
    · rw [if_pos (hm.mpr (.inl c)),if_pos c]
    · rw [if_neg (fun z=>(hm.mp z).elim c e),if_neg c]
theorem subI_anti {D:Fl} {m:Int} {w:List Str} (nd:w.Nodup) (a b:Str):∀ i,i + 1≤w.length→subI D m w i a b - subI D m w i b a = (D a b - D b a) - pushN (fun _ _=>0) (-m) w i a b
  | 0,_=>by
    unfold subI
    rw [List.take_zero,if_neg (by simp),if_neg (by simp)]
    show _ = _ - (0:Int)
    omega
  | i + 1,hi=>by
    have ih:=subI_anti (D:=D) (m:=m) nd a b i (by omega)
    obtain ⟨x,hx⟩:∃ x,w[i]? = some x:=⟨_,List.getElem?_eq_getElem (by omega)⟩
    obtain ⟨y,hy⟩:∃ y,w[i + 1]? = some y:=⟨_,List.getElem?_eq_getElem (by omega)⟩
    have hne:x≠y:=fun e=>by
      subst e
      have:=nd_ix nd hx hy
      omega
    have hs:(stL w)[i]? = some (x,y):=stL_get.mpr ⟨hx,hy⟩
    rw [pushN_succ hx hy,subI_succ nd hs,subI_succ nd hs]
    unfold pushF
    by_cases c1:a = x∧b = y
    · have c2:¬ (b = x∧a = y):=fun z=>hne (c1.1.symm.trans z.2)
      rw [if_pos c1,if_neg c2,if_pos c1];omega
    · by_cases c2:b = x∧a = y
      · rw [if_neg c1,if_pos c2,if_neg c1,if_pos ⟨c2.2,c2.1⟩];omega
      · rw [if_neg c1,if_neg c2,if_neg c1,if_neg (fun z=>c2 ⟨z.2,z.1⟩)];omega
theorem subI_all {D:Fl} {m:Int} {w:List Str} {k:Nat} (h:w.length = k + 1) (a b:Str):subI D m w k a b = D a b - (if (a,b)∈stL w then m else 0):=by
  unfold subI
  rw [List.take_of_length_le (by rw [stL_len];omega)]
  by_cases c:(a,b)∈stL w
  · rw [if_pos c,if_pos c]
  · rw [if_neg c,if_neg c];omega
structure Cs (ks:List Str) (one other:Str) (D:Fl) (lack:Int):Prop where
  nn:∀ x∈ks,∀ y∈ks,0≤D x y
  cons:∀ x∈ks,x≠one→x≠other→outF ks (fun a b=>D a b - D b a) x = 0
  amt:outF ks (fun a b=>D a b - D b a) one = lack
structure Wy (ks:List Str) (one other:Str) (w:List Str) (k:Nat):Prop where
  len:w.length = k + 1
  fst:w[0]? = some one
  lst:w[k]? = some other
  nd:w.Nodup
  mem:∀ x∈w,x∈ks
theorem Cs.step {ks:List Str} {one other:Str} {D:Fl} {lack m:Int} {w:List Str} {k:Nat} (c:Cs ks one other D lack) (nk:ks.Nodup) (hne:one≠other) (y:Wy ks one other w k) (hm:0≤m) (hle:∀ i a b,w[i]? = some a→w[i + 1]? = some b→m≤D a b):Cs ks one other (subI D m w k) (lack - m):=by
  have way:WayOk ks (fun _ _=>0) (-m) w:=⟨y.mem,y.nd,fun _ _ _ _ _=>by show -m≤0;omega⟩
  have out:∀ v,outF ks (fun a b=>subI D m w k a b - subI D m w k b a) v = outF ks (fun a b=>D a b - D b a) v + (if v = one then -m else 0) - (if v = other then -m else 0):=fun v=>by
    have h:=way.out (c:=fun a b=>D a b - D b a) nk y.fst v k other y.lst
    have e1:(fun a b=>subI D m w k a b - subI D m w k b a) = fun a b=>(fun a b=>D a b - D b a) a b - pushN (fun _ _=>0) (-m) w k a b:=by
      funext a b
      exact subI_anti y.nd a b k (by rw [y.len];omega)
    have e2:(fun a b=>(fun a b=>D a b - D b a) a b - (fun _ _=>(0:Int)) a b) = fun a b=>D a b - D b a:=by
      funext a b
      show (D a b - D b a) - (0:Int) = D a b - D b a
      omega
    rw [e1,h,e2]
  refine ⟨fun a ha b hb=>?_,fun x hx h1 h2=>?_,?_⟩
  · rw [subI_all y.len]
    have:=c.nn a ha b hb
    by_cases z:(a,b)∈stL w
    · rw [if_pos z]
      obtain ⟨i,h1,h2⟩:=stL_mem.mp z
      have:=hle i a b h1 h2
      omega
    · rw [if_neg z];omega
  · rw [out,c.cons x hx h1 h2,if_neg h1,if_neg h2];omega
  · rw [out,c.amt,if_pos rfl,if_neg hne];omega
theorem Cs.blocked {ks:List Str} {one other:Str} {D:Fl} {lack:Int} (c:Cs ks one other D lack) (nk:ks.Nodup) (h1:one∈ks) (hne:one≠other) {L:Ah} (b:Bfs ks D [one] L) (d:Done ks D L L.length) (h2:other∉L.map (·.1)):lack≤0:=by
  have f:Flow ks (fun a b=>D a b - D b a) (inB [one]) (inB [other]) (fun _ _=>0) lack:=by
    have e2:(fun a b=>(fun a b=>D a b - D b a) a b - (fun _ _=>(0:Int)) a b) = fun a b=>D a b - D b a:=by
      funext a b
      show (D a b - D b a) - (0:Int) = D a b - D b a
      omega
    refine ⟨fun _ _ _ _=>Int.le_refl _,fun x _ y _=>?_,fun x hx o t=>?_,?_⟩
    · show D x y - D y x - 0 = -(D y x - D x y - 0)
      omega
    · rw [e2]
      refine c.cons x hx (fun e=>?_) (fun e=>?_)
      · rw [e] at o;simp [inB] at o
      · rw [e] at t;simp [inB] at t
    · rw [e2]
      have:∀ x∈ks,(if inB [one] x = true then outF ks (fun a b=>D a b - D b a) x else 0) = if x = one then lack else 0:=fun x _=>by
        by_cases e:x = one
        · rw [if_pos e,if_pos (by simp [inB,e]),e];exact c.amt
        · rw [if_neg e,if_neg (by simp [inB,e])]
      rw [sumL_congr this,sumL_one nk h1]
  have s:Side ks (inB [one]) (inB [other]) (inB (L.map (·.1))):=by
    refine ⟨fun x _ hx=>?_,fun x _ hx=>?_⟩
    · have:x = one:=by simpa [inB] using hx
      rw [this];exact inB_iff.mpr (b.ones one (by simp))
    · have:x = other:=by simpa [inB] using hx
      rw [this]
      cases z:inB (L.map (·.1)) other with
      | false=>rfl
      | true=>exact absurd (inB_iff.mp z) h2
  have hc:=f.cut s
  rw [hc]
  unfold leave
  have z0:sumL ks (fun x=>sumL ks fun _=>(0:Int)) = 0:=sumL_zero fun x _=>sumL_zero fun _ _=>rfl
  refine Int.le_trans (sumL_le (h:=fun x=>sumL ks fun _=>(0:Int)) fun x hx=>sumL_le fun y hy=>?_) (Int.le_of_eq z0)
  by_cases z:inB (L.map (·.1)) x = true∧inB (L.map (·.1)) y = false
  · rw [if_pos z]
    show D x y - D y x - 0≤0
    have a1:=c.nn x hx y hy
    have a2:=c.nn y hy x hx
    have a3:¬ 0 < D x y:=fun h=>by
      have:=d.all x (inB_iff.mp z.1) y hy h
      rw [inB_iff.mpr this] at z
      cases z.2
    omega
  · rw [if_neg z];exact Int.le_refl _
def posN (ks:List Str) (D:Fl):Int:=sumL ks fun x=>sumL ks fun y=>if 0 < D x y then 1 else 0
theorem posN_nn (ks:List Str) (D:Fl):0≤posN ks D:=sumL_nonneg fun x _=>sumL_nonneg fun y _=>by
  by_cases h:0 < D x y
  · rw [if_pos h];decide
  · rw [if_neg h];exact Int.le_refl _
theorem posN_step {ks:List Str} {D:Fl} {m:Int} {w:List Str} {k:Nat} (nk:ks.Nodup) (hl:w.length = k + 1) (hm:1≤m) {x1 y1:Str} (h1:x1∈ks) (h2:y1∈ks) (hs:(x1,y1)∈stL w) (he:m = D x1 y1):posN ks (subI D m w k) + 1≤posN ks D:=by
  have one:sumL ks (fun x=>sumL ks fun y=>if x = x1∧y = y1 then (1:Int) else 0) = 1:=by
    have:∀ x∈ks,sumL ks (fun y=>if x = x1∧y = y1 then (1:Int) else 0) = if x = x1 then 1 else 0:=fun x _=>by
      by_cases e:x = x1
      · rw [if_pos e]
        rw [sumL_congr (h:=fun y=>if y = y1 then (1:Int) else 0) fun y _=>by
          by_cases z:y = y1
          · rw [if_pos ⟨e,z⟩,if_pos z]
          · rw [if_neg (fun q=>z q.2),if_neg z]]
        exact sumL_one nk h2 1
      · rw [if_neg e]
        exact sumL_zero fun y _=>if_neg fun q=>e q.1
    rw [sumL_congr this,sumL_one nk h1]
  have key:posN ks (subI D m w k) + sumL ks (fun x=>sumL ks fun y=>if x = x1∧y = y1 then (1:Int) else 0)≤posN ks D:=?_
  · rw [one] at key;exact key
  unfold posN
  rw [← sumL_add]
  refine sumL_le fun x _=>?_
  rw [← sumL_add]
  refine sumL_le fun y _=>?_
  rw [subI_all hl]
  by_cases c:x = x1∧y = y1
  · obtain ⟨rfl,rfl⟩:=c
    rw [if_pos hs,if_neg (show ¬ 0 < D x y - m by omega),if_pos (show x = x∧y = y from ⟨rfl,rfl⟩),if_pos (show 0 < D x y by omega)];decide
  · rw [if_neg c]
    by_cases z:(x,y)∈stL w
    · rw [if_pos z]
      by_cases p:0 < D x y - m
      · rw [if_pos p,if_pos (by omega)];decide
      · rw [if_neg p]
        split <;> decide
    · rw [if_neg z,Int.sub_zero];omega
abbrev Rts:=List (Int×List Str)
def useA (R:Rts) (a b:Str):Int:=sumL R fun e=>if (a,b)∈stL e.2 then e.1 else 0
def stepR (ks:List Str) (one other:Str) (s:Fl×Int×Rts):Fl×Int×Rts :=
  if 0 < s.2.1 then (subI s.1 (leastF s.1 (shortF ks s.1 [one] [other])) (shortF ks s.1 [one] [other]) ((shortF ks s.1 [one] [other]).length - 1),s.2.1 - leastF s.1 (shortF ks s.1 [one] [other]),s.2.2 ++ [(leastF s.1 (shortF ks s.1 [one] [other]),shortF ks s.1 [one] [other])]) else s
structure RInv (ks:List Str) (one other:Str) (D0:Fl) (amount:Int) (D:Fl) (lack:Int) (R:Rts):Prop where
  cs:Cs ks one other D lack
  use:∀ a b,D a b = D0 a b - useA R a b
  way:∀ e∈R,1≤e.1∧(∃ k,1≤k∧Wy ks one other e.2 k)∧∀ a b,(a,b)∈stL e.2→0 < D0 a b
  cnt:(R.length:Int) + posN ks D≤posN ks D0
  sum:(sumL R fun e=>e.1) + lack = amount
  bk:∀ x∈ks,D x one = 0
  lk:0≤lack
theorem Cs.out {ks:List Str} {one other:Str} {D:Fl} {lack:Int} (c:Cs ks one other D lack) (bk:∀ x∈ks,D x one = 0):lack = sumL ks fun y=>D one y:=by
  rw [← c.amt]
  exact sumL_congr fun y hy=>by
    show D one y - D y one = D one y
    rw [bk y hy];omega
theorem sumL_ge {α:Type} {l:List α} {g:α→Int} (h:∀ a∈l,0≤g a) {x:α} (hx:x∈l):g x≤sumL l g:=by
  induction l with
  | nil=>simp at hx
  | cons a l ih =>
    rw [sumL_cons]
    have h1:=h a (by simp)
    have h2:=sumL_nonneg (l:=l) (g:=g) fun b hb=>h b (List.mem_cons_of_mem _ hb)
    rcases List.mem_cons.mp hx with e | e
    · rw [e];omega
    · have:=ih (fun b hb=>h b (List.mem_cons_of_mem _ hb)) e
      omega
theorem RInv.start {ks:List Str} {one other:Str} {D0:Fl} {amount:Int} (c:Cs ks one other D0 amount) (h1:one∈ks) (bk:∀ x∈ks,D0 x one = 0):RInv ks one other D0 amount D0 amount [] :=
  ⟨c,fun a b=>by show _ = _ - (0:Int);omega,fun _ h=>absurd h (by simp),by show ((0:Nat):Int) + _≤_;omega,by show (0:Int) + _ = _;omega,bk,by rw [c.out bk];exact sumL_nonneg fun y hy=>c.nn one h1 y hy⟩
theorem sumL_app {α:Type} (l m:List α) (g:α→Int):sumL (l ++ m) g = sumL l g + sumL m g:=by simp [sumL]
theorem RInv.step {ks:List Str} {one other:Str} {D0 D:Fl} {amount lack m:Int} {R:Rts} {w:List Str} {k:Nat} (r:RInv ks one other D0 amount D lack R) (nk:ks.Nodup) (hne:one≠other) (y:Wy ks one other w k) (hm:1≤m) (hle:∀ i a b,w[i]? = some a→w[i + 1]? = some b→m≤D a b) (hex:∃ i a b,w[i]? = some a∧w[i + 1]? = some b∧m = D a b) (un:∀ a b,0≤useA R a b):RInv ks one other D0 amount (subI D m w k) (lack - m) (R ++ [(m,w)]):=by
  obtain ⟨i,x1,y1,g1,g2,ge⟩:=hex
  have nob:∀ x,(x,one)∉stL w:=fun x hm=>by
    obtain ⟨j,_,h2⟩:=stL_mem.mp hm
    have:=nd_ix y.nd h2 y.fst
    omega
  have hk1:1≤k:=by
    rcases Nat.eq_zero_or_pos k with z | z
    · have:=y.lst
      rw [z,y.fst] at this
      cases this
      exact absurd rfl hne
    · exact z
  have o1:one∈ks:=y.mem _ (List.mem_of_getElem? y.fst)
  have mle:m≤lack:=by
    obtain ⟨u,hu⟩:∃ u,w[0 + 1]? = some u:=⟨_,List.getElem?_eq_getElem (by rw [y.len];omega)⟩
    have a1:=hle 0 one u y.fst hu
    have a2:=sumL_ge (l:=ks) (g:=fun y=>D one y) (fun b hb=>r.cs.nn one o1 b hb) (y.mem _ (List.mem_of_getElem? hu))
    have a3:=r.cs.out r.bk
    have a4:(fun y=>D one y) u = D one u:=rfl
    omega
  refine ⟨r.cs.step nk hne y (by omega) hle,fun a b=>?_,fun e he=>?_,?_,?_,fun x hx=>?_,by omega⟩
  · rw [subI_all y.len,r.use a b]
    unfold useA
    rw [sumL_app]
    show _ = _ - (_ + sumL [(m,w)] _)
    rw [sumL_cons,sumL_nil]
    show _ = _ - (_ + ((if (a,b)∈stL w then m else 0) + 0))
    omega
  · rcases List.mem_append.mp he with c | c
    · exact r.way e c
    · rw [List.mem_singleton.mp c]
      refine ⟨hm,⟨k,?_,y⟩,fun a b hs=>?_⟩
      · rcases Nat.eq_zero_or_pos k with z | z
        · have:=y.lst
          rw [z,y.fst] at this
          cases this
          exact absurd rfl hne
        · exact z
      · obtain ⟨j,h1,h2⟩:=stL_mem.mp hs
        have a1:=hle j a b h1 h2
        have a2:=r.use a b
        have a3:=un a b
        omega
  · have:=posN_step nk y.len hm (y.mem _ (List.mem_of_getElem? g1)) (y.mem _ (List.mem_of_getElem? g2)) (stL_mem.mpr ⟨i,g1,g2⟩) ge
    have a2:=r.cnt
    rw [List.length_append]
    show ((R.length + 1:Nat):Int) + _≤_
    omega
  · have:=r.sum
    rw [sumL_app]
    show _ + sumL [(m,w)] _ + _ = _
    rw [sumL_cons,sumL_nil]
    show _ + (m + 0) + (lack - m) = _
    omega
  · rw [subI_all y.len,if_neg (nob x),r.bk x hx];rfl
theorem RInv.un {ks:List Str} {one other:Str} {D0 D:Fl} {amount lack:Int} {R:Rts} (r:RInv ks one other D0 amount D lack R) (a b:Str):0≤useA R a b:=sumL_nonneg fun e he=>by
  have:=(r.way e he).1
  split
  · omega
  · exact Int.le_refl _
end L2
namespace L2
open PySem PySem.Spec PyProof.Rows
def phiR (f:Str→Row) (r:Fl) (x:Str):Row:=(f x).map fun e=>(e.1,if e.2 - r x e.1 > 0 then e.2 - r x e.1 else 0)
theorem look_phi (f:Str→Row) (r:Fl) (x y:Str):look (phiR f r x) y = (look (f x) y).map fun v=>if v - r x y > 0 then v - r x y else 0:=by
  unfold phiR
  generalize f x = l
  induction l with
  | nil=>rfl
  | cons e l ih =>
    obtain ⟨k,v⟩:=e
    rw [List.map_cons]
    unfold look at ih ⊢
    rw [List.find?_cons,List.find?_cons]
    by_cases c:k = y
    · subst c;simp
    · have:decide (k = y) = false:=by simpa using c
      simp only [this]
      exact ih
theorem rc_phi_some {f:Str→Row} {r:Fl} {x y:Str} {v:Int} (h:look (f x) y = some v):rc (phiR f r) x y = if v - r x y > 0 then v - r x y else 0:=by
  unfold rc
  rw [look_phi,h];rfl
theorem rc_phi_none {f:Str→Row} {r:Fl} {x y:Str} (h:look (f x) y = none):rc (phiR f r) x y = 0:=by
  unfold rc
  rw [look_phi,h];rfl
section
variable {ks:List Str} {f:Str→Row} {one other:Str} {r:Fl} {amount:Int}
theorem phi_anti (fl:Flow ks (rc f) (inB [one]) (inB [other]) r amount) (sy:∀ x∈ks,∀ y∈ks,(look (f x) y).isSome = (look (f y) x).isSome) {x y:Str} (hx:x∈ks) (hy:y∈ks):rc (phiR f r) x y - rc (phiR f r) y x = rc f x y - r x y:=by
  have an:=fl.anti x hx y hy
  have n1:=fl.nn x hx y hy
  have n2:=fl.nn y hy x hx
  have s:=sy x hx y hy
  cases h1:look (f x) y with
  | none =>
    cases h2:look (f y) x with
    | some v=>rw [h1,h2] at s;cases s
    | none =>
      have e1:rc f x y = 0:=by unfold rc;rw [h1];rfl
      have e2:rc f y x = 0:=by unfold rc;rw [h2];rfl
      rw [e1,e2] at an
      rw [rc_phi_none h1,rc_phi_none h2,e1]
      omega
  | some v =>
    cases h2:look (f y) x with
    | none=>rw [h1,h2] at s;cases s
    | some v' =>
      have e1:rc f x y = v:=by unfold rc;rw [h1];rfl
      have e2:rc f y x = v':=by unfold rc;rw [h2];rfl
      rw [e1,e2] at an
      rw [rc_phi_some h1,rc_phi_some h2,e1]
      split <;> split <;> omega
theorem phi_nn (x y:Str):0≤rc (phiR f r) x y:=by
  cases h1:look (f x) y with
  | none=>rw [rc_phi_none h1];exact Int.le_refl _
  | some v =>
    rw [rc_phi_some h1]
    split <;> omega
theorem Cs.start (nk:ks.Nodup) (h1:one∈ks) (fl:Flow ks (rc f) (inB [one]) (inB [other]) r amount) (sy:∀ x∈ks,∀ y∈ks,(look (f x) y).isSome = (look (f y) x).isSome):Cs ks one other (rc (phiR f r)) amount:=by
  have out:∀ x∈ks,outF ks (fun a b=>rc (phiR f r) a b - rc (phiR f r) b a) x = outF ks (fun x y=>rc f x y - r x y) x:=fun x hx=>sumL_congr fun y hy=>phi_anti fl sy hx hy
  refine ⟨fun x _ y _=>phi_nn x y,fun x hx h1 h2=>?_,?_⟩
  · rw [out x hx]
    refine fl.cons x hx ?_ ?_
    · simpa [inB] using h1
    · simpa [inB] using h2
  · rw [out one h1,fl.amt]
    have:∀ x∈ks,(if inB [one] x = true then outF ks (fun x y=>rc f x y - r x y) x else 0) = if x = one then outF ks (fun x y=>rc f x y - r x y) one else 0:=fun x _=>by
      by_cases e:x = one
      · rw [if_pos e,if_pos (by simp [inB,e]),e]
      · rw [if_neg e,if_neg (by simp [inB,e])]
    rw [sumL_congr this,sumL_one nk h1]
end
theorem phi_back {f:Str→Row} {r:Fl} {one:Str} (h:∀ x,rc f x one≤r x one) (x:Str):rc (phiR f r) x one = 0:=by
  cases h1:look (f x) one with
  | none=>exact rc_phi_none h1
  | some v =>
    have e1:rc f x one = v:=by unfold rc;rw [h1];rfl
    have:=h x
    rw [rc_phi_some h1,if_neg (by omega)]
theorem pushN_back {r:Fl} {m:Int} {w:List Str} (hm:0≤m) (nd:w.Nodup) {x0:Str} (h0:w[0]? = some x0) (x:Str):∀ i,r x x0≤pushN r m w i x x0
  | 0=>Int.le_refl _
  | i + 1=>by
    have ih:=pushN_back (r:=r) hm nd h0 x i
    cases h1:w[i]? with
    | none =>
      show r x x0≤(match w[i]?,w[i + 1]? with | some x,some y=>pushF (pushN r m w i) x y m | _,_=>pushN r m w i) x x0
      rw [h1];exact ih
    | some a =>
      cases h2:w[i + 1]? with
      | none =>
        show r x x0≤(match w[i]?,w[i + 1]? with | some x,some y=>pushF (pushN r m w i) x y m | _,_=>pushN r m w i) x x0
        rw [h1,h2];exact ih
      | some b =>
        rw [pushN_succ h1 h2]
        unfold pushF
        have:¬ (x = a∧x0 = b):=fun z=>by
          have e:=z.2
          subst e
          have:=nd_ix nd h2 h0
          omega
        rw [if_neg this]
        split <;> omega
theorem sumL_le_mul {α:Type} {k:Int}:∀ {l:List α} {g:α→Int},(∀ a∈l,g a≤k)→sumL l g≤l.length * k
  | [],g,_=>by rw [sumL_nil];simp
  | a :: l,g,h=>by
    have:=sumL_le_mul (l:=l) (g:=g) fun b hb=>h b (List.mem_cons_of_mem _ hb)
    have h2:=h a (by simp)
    rw [sumL_cons,List.length_cons]
    have:((l.length + 1:Nat):Int) * k = l.length * k + k:=by rw [Int.natCast_add,Int.add_mul];simp
    omega
theorem posN_le {ks:List Str} (D:Fl) (h:ks.length≤12):posN ks D≤144:=by
  have h1:posN ks D≤ks.length * 12:=sumL_le_mul fun x _=>by
    have:(sumL ks fun y=>if 0 < D x y then (1:Int) else 0)≤ks.length * 1:=sumL_le_mul fun y _=>by
      split <;> decide
    omega
  omega
abbrev Rz:=List (Addr×Addr×Int×List Str)
def rtV (zs:Rz):List V:=zs.map fun z=>V.ref z.1
def rtR (zs:Rz):Rts:=zs.map fun z=>z.2.2
structure RtAt (H0 H:Hp) (p:Addr) (zs:Rz):Prop where
  out:H p = some (.lst (rtV zs))
  tp:∀ z∈zs,H z.1 = some (.tup [.int z.2.2.1,.ref z.2.1])
  ws:∀ z∈zs,H z.2.1 = some (.lst (z.2.2.2.map V.str))
  np:H0 p = none
  nw:∀ z∈zs,H0 z.1 = none∧H0 z.2.1 = none
  ne:∀ z∈zs,z.2.1≠p
theorem RtAt.same {H0 H H':Hp} {p:Addr} {zs:Rz} (r:RtAt H0 H p zs) (s:Same H H'):RtAt H0 H' p zs :=
  ⟨s _ _ r.out,fun z hz=>s _ _ (r.tp z hz),fun z hz=>s _ _ (r.ws z hz),r.np,r.nw,r.ne⟩
def RoutesOf (ks:List Str) (f:Str→Row) (one other:Str) (amount:Int) (R:Rts):Prop :=
  ∃ (r D:Fl) (lack:Int),(∃ n,(r,amount) = itN (stepP ks [one] [other]) n (rc f,0))∧shortF ks r [one] [other] = []∧Flow ks (rc f) (inB [one]) (inB [other]) r amount∧(∃ L,Bfs ks r [one] L∧Done ks r L L.length∧other∉L.map (·.1)) ∧
    (∃ n,(D,lack,R) = itN (stepR ks one other) n (rc (phiR f r),amount,[]))∧¬ 0 < lack∧RInv ks one other (rc (phiR f r)) amount D lack R
end L2
namespace L2
open PySem PySem.Spec PyProof.Rows PySem.SeqAt
section
variable {prog:Program} {w:World} {A:Around} {R:Result→Shared→Prop} {I:Addr} {fp wr:List Addr} {G:Array GenState→Array GenState→Prop} {n:Nat} {P:Nat→Value→Prop} {St:Nat→Shared→Prop}
theorem strs_len:∀ {vs:List Value} {ss:List Str},StrsAre vs ss→vs.length = ss.length
  | _,_,.nil=>rfl
  | _,_,.cons _ _ h=>by rw [List.length_cons,List.length_cons,strs_len h]
theorem strs_at:∀ {vs:List Value} {ss:List Str} {i:Nat} {v:Value},StrsAre vs ss→vs[i]? = some v→∃ x t,ss[i]? = some x∧v = .str x t
  | _,_,i,v,.nil,h=>by simp at h
  | _,_,0,v,.cons x t _,h=>by simp at h;exact ⟨x,t,rfl,h.symm⟩
  | _,_,i + 1,v,.cons x t r,h=>by
    rw [List.getElem?_cons_succ] at h
    rw [List.getElem?_cons_succ]
    exact strs_at r h
def SetI (prog:Program) (w:World) (h:Heap) (S:Addr) (ss:List Str) (i:Nat):Prop:=h.SetOf (strKind prog w) S (fun k=>decide (k∈ss.take i)) i
theorem SetI.move {h h':Heap} {S:Addr} {ss:List Str} {i:Nat} (x:SetI prog w h S ss i) (e:∀ o,h.get? S = some o→h'.get? S = some o):SetI prog w h' S ss i:=by
  obtain ⟨o,es,ep,t,ho,rest⟩:=x
  exact ⟨o,es,ep,t,e o ho,rest⟩
theorem upd_loop (W:WalksS prog w A.in1 I fp wr G n P St) (S:Addr) (hSf:S∉fp) (ss:List Str) (hn:ss.length = n) (nd:ss.Nodup) (hval:∀ i v,P i v→∃ x t,ss[i]? = some x∧v = .str x t) (hb:n + 1 < scanBound) :
    ∀ (k i:Nat) (s:Shared),n - i = k→i≤n→St i s→SetI prog w s.heap S ss i →
      (∀ s',Moved (S :: wr) G s s'→SetI prog w s'.heap S ss n→R (.ok (.ret .none)) s') →
      codeAny (model prog w) A (.builtin "set.update.loop" ⟨[.ref S,.ref I],[]⟩) R s:=by
  have hSw:S∉wr:=fun h=>hSf (W.sub _ h)
  intro k
  induction k with
  | zero =>
    intro i s hk hi hst hS hR
    obtain rfl:i = n:=by omega
    refine codeAny_builtin F.entry_set_update_loop ?_
    rw [Around.under_plainId F.plain_set_update_loop _]
    show wpAny _ A.in1 (pyNext (.ref I) >>= _) _ _ s
    refine wpAny_bind (W.done s _ _ hst fun s' hm=>wpAny_pure (hR s' (hm.mono fun b hb=>List.mem_cons_of_mem _ hb) (hS.move fun o e=>hm.heap S _ hSw e)))
  | succ k ih =>
    intro i s hk hi hst hS hR
    have hlt:i < n:=by omega
    refine codeAny_builtin F.entry_set_update_loop ?_
    rw [Around.under_plainId F.plain_set_update_loop _]
    show wpAny _ A.in1 (pyNext (.ref I) >>= _) _ _ s
    refine wpAny_bind (W.item i s _ _ hlt hst fun v s' hP hst' hm=>?_)
    obtain ⟨x,t,hx,rfl⟩:=hval i v hP
    have hS':=hS.move fun o e=>hm.heap S o hSw e
    have hfresh:x∉ss.take i:=nodup_take nd hx
    show wpAny _ A.in1 (holding [Value.str x t] (setAdd S (.str x t)) >>= _) _ _ s'
    refine wpAny_bind (wpAny_holding ?_)
    unfold setAdd
    refine wpAny_holding (wpAny_bind ((strKind prog w).pyHash (k:=x) (strKind_is _ _ _ _) ?_))
    refine wpAny_setAddHashed_of (knd:=strKind prog w) (s:={ s' with toks:=s'.toks + 1 }) (strKind_is _ _ _ _) rfl hS' (by omega) fun h' hsb hS2=>?_
    have hSi:SetI prog w h' S ss (i + 1):=SetOf_congr hS2 (fun k'=>by
      rw [List.take_add_one,hx]
      by_cases c:k'∈ss.take i <;> by_cases d:k' = x <;> simp [c,d]) (by rw [if_neg (by simpa using hfresh)])
    refine wpAny_pure ⟨plainId_quiet F.plain_set_update_loop _,ih (i + 1) _ (by omega) hlt (W.frame _ s' _ _ hst' (Nat.le_succ _) fun b hb o e=>?_) hSi fun s'' hm'' hS''=>?_⟩
    · rw [hsb.2 b (fun h:b = S=>hSf (h ▸ hb))];exact e
    · refine hR s'' (Moved.trans W.gtrans ((hm.mono fun b hb=>List.mem_cons_of_mem _ hb).then_heap (Nat.le_succ _) fun b o hb e=>?_) hm'') hS''
      rw [hsb.2 b (fun h:b = S=>hb (by rw [h];exact List.mem_cons_self))];exact e
end
section
variable {prog:Program} {w:World} {A:Around} {E:Value→Shared→Prop} {s:Shared}
def setObj (led:Bool):Obj:={ cls:=.type "set",dict:=none,data:=.set #[] 0 (.fresh 0 0 led) }
theorem setI_fresh {h:Heap} {S:Addr} {ss:List Str} {led:Bool} (e:h.get? S = some (setObj led)):SetI prog w h S ss 0 :=
  SetOf_congr ((setObjOf_fresh (knd:=strKind prog w) led).setOf e (by unfold scanBound;omega)) (fun _=>by simp) rfl
theorem call_set_strs {l:Addr} {items:Array Value} {ss:List Str} {Q:Value→Shared→Prop} (hh:A.handled = none) (hl:s.heap.IsList l items) (hv:StrsAre items.toList ss) (nd:ss.Nodup) (hb:items.size + 1 < scanBound)
    (h:∀ (h':Heap) (tk:Nat),SetI prog w h' s.heap.objs.size ss ss.length→(∀ b o,s.heap.get? b = some o→h'.get? b = some o)→Q (.ref s.heap.objs.size) { s with heap:=h',toks:=tk }) :
    wpAny (model prog w) A (call (.type "set") [.ref l]) Q E s:=by
  have hsz:ss.length = items.size:=by rw [← Array.length_toList];exact (strs_len hv).symm
  obtain ⟨c,tl,hmro⟩:=F.called_set.mro
  have hmade:=F.called_set.made
  have hsub:=F.called_set.sub
  have h1:=F.called_set.notType
  have h2:=F.called_set.canCreate
  have hct:=F.typeCall_set_1 (.ref l)
  refine wpAny_call (codeAny_of_tree ?_)
  show wpAny _ _ (callAny (.type "set") _) _ _ _
  refine wpAny_pure ⟨Code.quiet_builtin _ (by decide +kernel),codeAny_builtin F.entry_type_call ?_⟩
  rw [Around.under_plain (weight_type_call_type "set" [.ref l] []) rfl]
  repeat (any_goals (first | assumption | wp_step))
  refine codeAny_mono (code_set_new_1 (.ref l) (E:=E) (Q₁:=fun obj s₁=>∃ led,obj = .ref s.heap.objs.size∧s₁ = { s with heap:=s.heap.push (setObj led) }) fun led=>⟨led,rfl,rfl⟩) fun r s₁ hr=>?_
  cases r with
  | error e=>exact hr
  | ok fl =>
    cases fl with
    | ret obj =>
      obtain ⟨led,rfl,rfl⟩:=hr
      have hS:(s.heap.push (setObj led)).get? s.heap.objs.size = some (setObj led):=Heap.get?_push_size _ rfl
      have hT:Shared.TypeIs { s with heap:=s.heap.push (setObj led) } (.ref s.heap.objs.size) "set":=⟨_,hS,rfl⟩
      have hli:=F.called_set.init.lookup
      have hbi:=F.called_set.init.bind (.ref s.heap.objs.size)
      repeat (any_goals (first | assumption | wp_step))
      refine codeAny_mono (codeAny_call_builtin (R:=wants (fun r s₂=>r = .none∧∃ h' tk,s₂ = { s with heap:=h',toks:=tk }∧SetI prog w h' s.heap.objs.size ss ss.length∧∀ b o,s.heap.get? b = some o→h'.get? b = some o) E) F.called_set.init.plain F.entry_set_init (check_set_init_1 hT ?_)) fun r₂ s₂ hr₂=>?_
      · have hl1:(s.heap.push (setObj led)).IsList l items:=hl.push _
        obtain ⟨ol,hol,hcl,nl,hdl⟩:=hl
        obtain ⟨ocls,odict,odata,oslots⟩:=ol
        simp only at hcl hdl
        subst hcl;subst hdl
        have hol':(s.heap.push (setObj led)).get? l = some { cls:=.type "list",dict:=odict,data:=.seq items nl,slots:=oslots }:=Heap.get?_push_of_some _ hol
        have hsls:=F.sub_list_set
        have hslf:=F.sub_list_frozenset
        have hne:(Value.type "list" == Value.type "dict") = false:=by decide
        have hlS:l < s.heap.objs.size:=Heap.lt_size hol
        unfold Builtin.«set.__init__» noKeywords Builtin.Frozenset.updateFrom
        generalize hPI:pyIter = PI
        wp_walk
        subst hPI
        refine wpAny_pyIter_list hl1 (wpAny_bind (wpAny_runValue ?_))
        have hI:(s.heap.push (setObj led)).objs.size = s.heap.objs.size + 1:=Heap.size_push ..
        have ne1:l≠(s.heap.push (setObj led)).objs.size:=by rw [hI];exact Nat.ne_of_lt (Nat.lt_succ_of_lt hlS)
        have ne2:s.heap.objs.size≠(s.heap.push (setObj led)).objs.size:=by rw [hI];exact Nat.ne_of_lt (Nat.lt_succ_self _)
        refine upd_loop ((Walks.list (by simp [hh]) _ l ne1 items).toS) s.heap.objs.size (by simp only [List.mem_cons,List.not_mem_nil,or_false,not_or];exact ⟨ne2,Nat.ne_of_gt hlS⟩) ss hsz nd (fun i v hvi=>?_) hb (items.size - 0) 0 _ (by omega) (Nat.zero_le _) ⟨⟨_,Heap.get?_push_size _ rfl,rfl,rfl⟩,hl1.push _⟩ (setI_fresh (Heap.get?_push_of_some _ hS)) fun s' hm hS'=>?_
        · exact strs_at hv (by rw [Array.getElem?_toList];exact hvi)
        · obtain ⟨h',g',d',tk',os'⟩:=s'
          have eg:g' = s.gens:=hm.gens
          have ed:d' = s.drawn:=hm.drawn
          have eo:os' = s.os:=hm.os
          subst eg;subst ed;subst eo
          refine wpAny_pure (wpAny_pure ⟨rfl,h',tk',rfl,by rw [hsz];exact hS',fun b o e=>?_⟩)
          have hlt:=Heap.lt_size e
          refine hm.heap b o ?_ (Heap.get?_push_of_some _ (Heap.get?_push_of_some _ e))
          simp only [List.mem_cons,List.not_mem_nil,or_false,not_or]
          exact ⟨Nat.ne_of_lt hlt,by rw [hI];exact Nat.ne_of_lt (Nat.lt_succ_of_lt hlt)⟩
      · cases r₂ with
        | error e=>exact hr₂
        | ok fl₂ =>
          cases fl₂ with
          | ret r =>
            obtain ⟨rfl,h',tk,rfl,hS',hk'⟩:=hr₂
            repeat (any_goals (first | assumption | wp_step))
            exact h _ _ hS' hk'
          | _=>exact hr₂.elim
    | _=>exact hr.elim
end
def tLenSet (K:PySem.W.Frag) (ta:TA):TE:=fun σ H Q=>ta σ H fun vs H1=>∃ (l:Addr) (ss:List Str),vs = [.ref l]∧SqL K H1 l (ss.map V.str)∧ss.Nodup∧ss.length≤100∧Q (.int ss.length) H1
theorem boot_ty_set:bootBuiltins "set" = some (.type "set"):=by decide +kernel
section
variable {X:Cx}
theorem pe_lenset {K:PySem.W.Frag} (hK:X.K = K) {a:Expr} {ta:TA} {p1 p2 pos pos2:Pos} (hc:X.calm = true) (hg1:Gl X "len") (hm1:X.mg "len" = none) (hg2:Gl X "set") (hm2:X.mg "set" = none) (ha:PA X [a] ta)
    (hs:starEach [a] X.env = [(false,eval a X.env)]:=by rfl) (hs2:starEach [Expr.Call (.Name "set" p2) [a] [] pos2] X.env = [(false,eval (.Call (.Name "set" p2) [a] [] pos2) X.env)]:=by rfl) :
    PE X (.Call (.Name "len" p1) [.Call (.Name "set" p2) [a] [] pos2] [] pos) (tLenSet K ta):=by
  subst hK
  intro pins s σ H Q I h
  refine wpAny_Call_Name_kw (ld_blt I hg1 hm1 boot_len' ?_)
  refine PyProof.Rows.callWith_builtin1 ?_ hs2 rfl
  rw [hs2]
  show wpAny _ _ (spliced ((false,eval (.Call (.Name "set" p2) [a] [] pos2) X.env) :: backTo pos (starEach [] X.env))) _ _ s
  refine Calls.spliced_cons ?_
  refine Call_ (ld_blt I hg2 hm2 boot_ty_set (PyProof.Rows.callWith_type1 (thn (ha pos2 pins s σ H _ I h) fun us s1 ⟨vs,H1,I1,r1,q1⟩=>?_) hs rfl))
  obtain ⟨l,ss,e,hq,nd,hlen,q⟩:=q1
  subst e
  obtain ⟨u,rfl,ru⟩:=vals1 r1
  cases ru
  obtain ⟨its,rv,pl,hz⟩:=I1.list hq
  have hl:=rv.length
  rw [List.length_map] at hl
  refine call_set_strs (I1.ok.hd hc) pl.isList (strsAre_of rv) nd (by rw [List.size_toArray,← hl];unfold scanBound;omega) fun h' tk hS hk=>Calls.spliced_nil ?_
  obtain ⟨o,es,ep,t,ho,hex,hd,_,_,_,hf,hn⟩:=hS
  have I2:Inv X pins σ H1 { s1 with heap:=h',toks:=tk }:=I1.kept (t':=tk) hk
  refine call_len_set ho hex hd hf (by rw [hn];omega) ?_
  rw [hn]
  exact ⟨.int ss.length,H1,(I2.tok _),⟨_,rfl⟩,q⟩
end
end L2
namespace L2
open PySem PySem.Spec PyProof.Rows PySem.SeqAt
def iVals (tl:TE):TI:=fun σ H R=>tl σ H fun x H1=>∃ a kvs,x = .ref a∧Rd H1 a (.dK kvs)∧∀ o H2,Fzn a o kvs H1 H2→R (Itv a o kvs) H2
section
variable {X:Cx} {tg:Expr}
end
end L2
namespace L2
open PySem PySem.Spec PyProof.Rows PySem.SeqAt
section
variable {prog:Program} {w:World} {A:Around} {E:Value→Shared→Prop} {s:Shared} {P:Nat→Value→Prop}
theorem cmp_lt (val:Nat→Str) (hv:∀ i v,P i v→∃ t,v = .str (val i) t):CmpOf prog w A .Lt P (fun i j=>decide ((val i).cps.toList < (val j).cps.toList)):=fun i j vi vj s Q E hi hj h=>by
  obtain ⟨t,rfl⟩:=hv i vi hi
  obtain ⟨u,rfl⟩:=hv j vj hj
  exact richCompare_gives (op:=.Lt) (typeIs_str s _ t) (typeIs_str s _ u) F.slot_str_lt F.entry_str_lt (F.args_str_lt_2 _ _) (gives_str_lt _ _ t u) (fun x=>nomatch x) h
theorem cmp_gt (val:Nat→Str) (hv:∀ i v,P i v→∃ t,v = .str (val i) t):CmpOf prog w A .Gt P (fun i j=>decide ((val j).cps.toList < (val i).cps.toList)):=fun i j vi vj s Q E hi hj h=>by
  obtain ⟨t,rfl⟩:=hv i vi hi
  obtain ⟨u,rfl⟩:=hv j vj hj
  exact richCompare_gives (op:=.Gt) (typeIs_str s _ t) (typeIs_str s _ u) F.slot_str_gt F.entry_str_gt (F.args_str_gt_2 _ _) (gives_str_gt _ _ t u) (fun x=>nomatch x) h
def two (x y:Str) (i:Nat):Str:=if i = 0 then x else y
theorem two_at {x y:Str} {t u:Tok} {i:Nat} {v:Value} (h:(#[Value.str x t,Value.str y u]:Array Value)[i]? = some v):∃ t,v = .str (two x y i) t:=by
  match i,h with
  | 0,h=>cases h;exact ⟨t,rfl⟩
  | 1,h=>cases h;exact ⟨u,rfl⟩
  | n + 2,h=>simp at h
theorem iter_two {x y:Str} {t u:Tok} {op:CmpOp} {bt:Nat→Nat→Bool} {Q:Value→Shared→Prop} (hh:A.handled = none) (hc:CmpOf prog w A.in1 op (fun i v=>(#[Value.str x t,Value.str y u]:Array Value)[i]? = some v) bt)
    (h:∀ h' tk,(∀ c o,s.heap.get? c = some o→h'.get? c = some o)→Q (if bt 1 0 then .str y u else .str x t) { s with heap:=h',toks:=tk }) :
    wpAny (model prog w) A.in1 (pyIter (.ref s.heap.objs.size)) (fun it s₂=>∃ I fp wr n P St bt,it = .ref I∧Walks prog w A.in1 I fp wr n P St∧St 0 s₂.heap∧(∀ b∈fp,b < s₂.heap.objs.size)∧0 < n∧CmpOf prog w A.in1 op P bt ∧
      ∀ v h' tk,P (argBest bt (n - 1)) v→(∀ b o,b∉wr→s₂.heap.get? b = some o→h'.get? b = some o)→Q v { s₂ with heap:=h',toks:=tk }) E
      { s with heap:=s.heap.push { cls:=.type "tuple",data:=.seq #[.str x t,.str y u] } }:=by
  have hT:(s.heap.push { cls:=.type "tuple",data:=.seq #[.str x t,.str y u] }).IsTuple s.heap.objs.size #[.str x t,.str y u]:=⟨_,Heap.get?_push_size _ rfl,rfl,0,rfl⟩
  have hsz:(s.heap.push { cls:=.type "tuple",data:=.seq #[.str x t,.str y u] }).objs.size = s.heap.objs.size + 1:=Heap.size_push ..
  refine wpAny_pyIter_tuple hT ⟨_,[_,s.heap.objs.size],[_],_,_,_,bt,rfl,Walks.tuple (A:=A.in1) hh _ s.heap.objs.size (by rw [hsz];exact Nat.ne_of_lt (Nat.lt_succ_self _)) #[.str x t,.str y u],⟨⟨_,Heap.get?_push_size _ rfl,rfl,rfl⟩,hT.push _⟩,fun c hc=>?_,(by show 0 < 2;decide),hc,fun v h' tk hP hk=>?_⟩
  · show c < ((s.heap.push _).push _).objs.size
    rw [Heap.size_push,hsz]
    have hc:c = (s.heap.push { cls:=.type "tuple",data:=.seq #[.str x t,.str y u] }).objs.size∨c = s.heap.objs.size:=by simpa using hc
    rcases hc with e | e <;> rw [e]
    · rw [hsz];exact Nat.lt_succ_self _
    · exact Nat.lt_succ_of_lt (Nat.lt_succ_self _)
  · have hv:v = if bt 1 0 then Value.str y u else Value.str x t:=by
      have hP:(#[Value.str x t,Value.str y u]:Array Value)[argBest bt 1]? = some v:=hP
      have e:argBest bt 1 = if bt 1 0 then 1 else 0:=rfl
      rw [e] at hP
      cases b:bt 1 0 with
      | true=>rw [b] at hP;simpa using hP.symm
      | false=>rw [b] at hP;simpa using hP.symm
    rw [hv]
    refine h h' tk fun c o e=>hk c o (fun hm=>?_) (Heap.get?_push_of_some _ (Heap.get?_push_of_some _ e))
    have hm:c = (s.heap.push { cls:=.type "tuple",data:=.seq #[.str x t,.str y u] }).objs.size:=by simpa using hm
    have:=Heap.lt_size e
    rw [hm,hsz] at this
    exact Nat.lt_irrefl _ (Nat.lt_of_succ_lt this)
end
section
variable {X:Cx}
theorem call_min2s (hc:X.calm = true):CallR X (.builtin "min") (fun xs H Q=>∃ x y,xs = [.str x,.str y]∧Q (.str (if decide (cs y < cs x) then y else x)) H):=by
  intro pins s σ H xs us Q I r h
  obtain ⟨x,y,rfl,q⟩:=h
  obtain ⟨u,w',rfl,⟨t,rfl⟩,⟨t',rfl⟩⟩:=vals2 r
  refine call_min_two (iter_two (I.ok.hd hc) (cmp_lt (two x y) fun i v h=>two_at h) fun h' tk k=>⟨_,H,I.kept k,?_,q⟩)
  have e:decide ((two x y 1).cps.toList < (two x y 0).cps.toList) = decide (cs y < cs x):=rfl
  rw [e]
  cases decide (cs y < cs x) <;> exact ⟨_,rfl⟩
theorem call_max2s (hc:X.calm = true):CallR X (.builtin "max") (fun xs H Q=>∃ x y,xs = [.str x,.str y]∧Q (.str (if decide (cs x < cs y) then y else x)) H):=by
  intro pins s σ H xs us Q I r h
  obtain ⟨x,y,rfl,q⟩:=h
  obtain ⟨u,w',rfl,⟨t,rfl⟩,⟨t',rfl⟩⟩:=vals2 r
  refine call_max_two (iter_two (I.ok.hd hc) (cmp_gt (two x y) fun i v h=>two_at h) fun h' tk k=>⟨_,H,I.kept k,?_,q⟩)
  have e:decide ((two x y 0).cps.toList < (two x y 1).cps.toList) = decide (cs x < cs y):=rfl
  rw [e]
  cases decide (cs x < cs y) <;> exact ⟨_,rfl⟩
end
end L2
namespace L2
open PySem PySem.Spec PyProof.Rows
section
variable {ks:List Str} {f:Str→Row} {one other:Str} {r:Fl} {amount:Int}
theorem phi_two (fl:Flow ks (rc f) (inB [one]) (inB [other]) r amount) (sy:∀ x∈ks,∀ y∈ks,look (f x) y = look (f y) x) (nn:∀ x∈ks,∀ y∈ks,0≤rc f x y) {x y:Str} (hx:x∈ks) (hy:y∈ks):rc (phiR f r) x y + rc (phiR f r) y x≤rc f x y:=by
  have an:=fl.anti x hx y hy
  have n1:=fl.nn x hx y hy
  have n2:=fl.nn y hy x hx
  have c0:=nn x hx y hy
  have s:=sy x hx y hy
  cases h1:look (f x) y with
  | none =>
    have h2:look (f y) x = none:=by rw [← s];exact h1
    rw [rc_phi_none h1,rc_phi_none h2];omega
  | some v =>
    have h2:look (f y) x = some v:=by rw [← s];exact h1
    have e1:rc f x y = v:=by unfold rc;rw [h1];rfl
    have e2:rc f y x = v:=by unfold rc;rw [h2];rfl
    rw [e1,e2] at an
    rw [e1] at c0 ⊢
    rw [rc_phi_some h1,rc_phi_some h2]
    split <;> split <;> omega
theorem LeastS.alike {c:Fl} {os ts:List Str} {a a':Int} {R R':List Str} (h:LeastS ks c os ts a R) (h':LeastS ks c os ts a' R'):a = a':=by
  have h1:=h.least _ h'.side
  have h2:=h'.least _ h.side
  rw [h'.eq] at h1
  rw [h.eq] at h2
  omega
theorem RoutesOf.least {R:Rts} (h1:one∈ks) (hne:one≠other) (h:RoutesOf ks f one other amount R):∃ R',LeastS ks (rc f) [one] [other] amount R':=by
  obtain ⟨r,D,l,_,_,fl,⟨L,b,d,n⟩,_⟩:=h
  exact ⟨_,least_of (by simpa using h1) fl b d (by simpa using n) b d⟩
end
end L2
namespace L2
open PySem PySem.Spec PyProof.Rows
section
variable {P:Program} {w:World} {A:Around} {E:Value→Shared→Prop} {s:Shared}
def DRaw (h:Heap) (D:Addr) (o:Obj) (es:Array DictEntry) (ep:Nat):Prop:=h.get? D = some o∧o.ExactDict∧o.data = .dict es ep
theorem DRaw.isT {D:Addr} {o:Obj} {es:Array DictEntry} {ep:Nat} (m:DRaw s.heap D o es ep):s.TypeIs (.ref D) "dict":=⟨o,m.1,m.2.1.1⟩
theorem iter_raw {D:Addr} {o:Obj} {es:Array DictEntry} {ep:Nat} {Q:Value→Shared→Prop} (nm:(D == sysModules) = false) (m:DRaw s.heap D o es ep)
    (q:Q (.ref s.heap.objs.size) { s with heap:=s.heap.push { cls:=.type "dict_keyiterator",data:=.fields #[.ref D,.int 0 0,.int es.size 0,.int ep 0] } }):wpAny (model P w) A (pyIter (.ref D)) Q E s:=by
  refine wpAny_pyIter_slot m.isT F.slot_dict_iter (wpAny_call_entry F.slot_dict_iter m.isT F.entry_dict_iter (by
    unfold Builtin.«dict.__iter__»;refine wpAny_bind ?_;unfold Builtin.Dict.dictSlotNone
    refine wpAny_bind (wpAny_notOrdered_dict m.isT (?_));show wpAny _ _ (pure (Value.ref D)) _ _ s
    refine wpAny_pure ?_;show wpAny _ _ (Builtin.Dict.showsAll D >>= _) _ _ s
    unfold Builtin.Dict.showsAll;rw [if_neg (by rw [nm];decide)]
    refine wpAny_bind (wpAny_pure (wpAny_bind (wpAny_dictEntries m.1 m.2.2 (wpAny_bind (wpAny_dictEpoch m.1 m.2.2 ?_)))))
    refine wpAny_bind (wpAny_newObj_type (wpAny_pure ⟨_,rfl,"dict_keyiterator",_,⟨_,Heap.get?_push_size _ rfl,rfl⟩,F.slot_dict_keyiterator_next.lookup,by simpa [rawInt] using q⟩))) (F.args_dict_iter_1 _))
theorem next_raw {it D:Addr} {i ep:Nat} {o:Obj} {es:Array DictEntry} {Q:Option Value→Shared→Prop} (gi:s.heap.IsKeyIter it D i es.size ep) (m:DRaw s.heap D o es ep) (lt:i < es.size)
    (q:∀ h',h'.IsKeyIter it D (i + 1) es.size ep→Heap.SameBut it s.heap h'→Q (some es[i].key) { s with heap:=h' }):wpAny (model P w) A (pyNext (.ref it)) Q E s:=by
  obtain ⟨oi,g1,g2,g3⟩:=id gi
  unfold pyNext
  refine wpAny_bind (wpAny_attempt (wpAny_callSpecial?_slot (name:=Str.ofString "__next__") gi.typeIs F.slot_dict_keyiterator_next (wpAny_call_entry F.slot_dict_keyiterator_next gi.typeIs F.entry_dict_keyiterator_next (?_) (F.args_dict_keyiterator_next_1 _))))
  refine wpAny_bind (wpAny_pure (wpAny_bind (wpAny_bind ?_)))
  first | refine wpAny_bind (wpAny_typeNameOfWhole_keyiter gi.typeIs (wpAny_pure ?_)) | refine wpAny_bind (wpAny_typeNameOf_keyiter gi.typeIs (wpAny_pure ?_))
  refine wpAny_bind (wpAny_fieldsOf g1 g3 ?_)
  simp only [show Builtin.Dict_items.ownsTuple "dict_keyiterator" = false by decide,Bool.false_eq_true,if_false]
  show wpAny _ _ (if (Value.ref D == Value.none) = true then _ else _) _ _ s
  rw [if_neg (show ¬ ((Value.ref D == Value.none) = true) from Bool.false_ne_true)]
  refine wpAny_bind (wpAny_pure (wpAny_bind (wpAny_dictEntries m.1 m.2.2 ?_)))
  rw [if_neg (by simp)]
  refine wpAny_bind (wpAny_pure (wpAny_bind (wpAny_dictEpoch m.1 m.2.2 ?_)))
  rw [if_neg (by simp)]
  refine wpAny_pure ?_
  simp only [show ¬ ((i:Int) < 0) by omega,if_false,Int.toNat_natCast,Array.getElem?_eq_getElem lt]
  refine wpAny_bind ?_
  first | refine wpAny_bind (wpAny_typeNameOfWhole_keyiter gi.typeIs (wpAny_pure ?_)) | refine wpAny_bind (wpAny_typeNameOf_keyiter gi.typeIs (wpAny_pure ?_))
  refine wpAny_bind (wpAny_isOneOf_keyiter gi.typeIs ?_)
  show wpAny _ _ (setField (.ref it) 1 (rawInt ((i:Int) + 1)) >>= fun _=>_) _ _ s
  refine wpAny_bind (wpAny_setField g1 g3 (by simp) ?_)
  have gi':(s.heap.update it (Obj.mapFields (·.setIfInBounds 1 (rawInt ((i:Int) + 1))))).IsKeyIter it D (i + 1) es.size ep :=
    ⟨_,Heap.get?_update_self _ g1 (Obj.isFreed_of_fields (Obj.data_mapFields g3 _)),(Obj.cls_mapFields ..).trans g2,by rw [Obj.data_mapFields g3];simp [rawInt]⟩
  refine wpAny_bind (wpAny_holding (wpAny_bind (wpAny_isOneOf_keyiter (s:={ s with heap:=s.heap.update it (Obj.mapFields (·.setIfInBounds 1 (rawInt ((i:Int) + 1)))) }) gi'.typeIs ?_)))
  show wpAny _ _ (pure es[i].key) _ _ _
  exact wpAny_pure (wpAny_pure ⟨_,rfl,wpAny_pure (q _ gi' (Heap.SameBut.update ..))⟩)
theorem end_raw {it D:Addr} {i ep:Nat} {o:Obj} {es:Array DictEntry} {Q:Option Value→Shared→Prop} (nh:A.handled = none) (gi:s.heap.IsKeyIter it D i es.size ep) (m:DRaw s.heap D o es ep) (ge:es.size≤i)
    (q:∀ h',Heap.ExtBut it s.heap h'→Q none { s with heap:=h' }):wpAny (model P w) A (pyNext (.ref it)) Q E s:=by
  obtain ⟨oi,g1,g2,g3⟩:=id gi
  unfold pyNext
  refine wpAny_bind (wpAny_attempt (wpAny_callSpecial?_slot (name:=Str.ofString "__next__") gi.typeIs F.slot_dict_keyiterator_next (wpAny_call_entry F.slot_dict_keyiterator_next gi.typeIs F.entry_dict_keyiterator_next (?_) (F.args_dict_keyiterator_next_1 _))))
  refine wpAny_bind (wpAny_pure (wpAny_bind (wpAny_bind ?_)))
  first | refine wpAny_bind (wpAny_typeNameOfWhole_keyiter gi.typeIs (wpAny_pure ?_)) | refine wpAny_bind (wpAny_typeNameOf_keyiter gi.typeIs (wpAny_pure ?_))
  refine wpAny_bind (wpAny_fieldsOf g1 g3 ?_)
  simp only [show Builtin.Dict_items.ownsTuple "dict_keyiterator" = false by decide,Bool.false_eq_true,if_false]
  show wpAny _ _ (if (Value.ref D == Value.none) = true then _ else _) _ _ s
  rw [if_neg (show ¬ ((Value.ref D == Value.none) = true) from Bool.false_ne_true)]
  refine wpAny_bind (wpAny_pure (wpAny_bind (wpAny_dictEntries m.1 m.2.2 ?_)))
  rw [if_neg (by simp)]
  refine wpAny_bind (wpAny_pure (wpAny_bind (wpAny_dictEpoch m.1 m.2.2 ?_)))
  rw [if_neg (by simp)]
  refine wpAny_pure ?_
  simp only [show ¬ ((i:Int) < 0) by omega,if_false,Int.toNat_natCast,Array.getElem?_eq_none ge]
  refine wpAny_bind ?_
  first | refine wpAny_bind (wpAny_typeNameOfWhole_keyiter gi.typeIs (wpAny_pure ?_)) | refine wpAny_bind (wpAny_typeNameOf_keyiter gi.typeIs (wpAny_pure ?_))
  show wpAny _ _ (setField (.ref it) 0 .none >>= fun _=>_) _ _ s
  refine wpAny_bind (wpAny_setField g1 g3 (by simp) ?_)
  show wpAny _ _ (newExc (.type "StopIteration") [] >>= fun _=>_) _ _ _
  refine wpAny_bind ?_
  simp only [newExc,newTuple]
  refine wpAny_bind (wpAny_newObj_type (?_) (by size_fits))
  refine wpAny_bind (m:=firstArgMember _ _) (wpAny_of_eq (a:=Value.none) (by first | rfl | (simp only [firstArgMember];rfl)) (?_))
  refine wpAny_newObj_type (?_) (by size_fits)
  simp only [raiseNew]
  refine wpAny_bind (wpAny_handled ?_)
  rw [show A.in1.handled = none from nh]
  refine wpAny_bind (wpAny_pure (wpAny_throw (?_)))
  refine wpAny_bind (wpAny_isInstance (T:="StopIteration") (b:=true) (⟨_,Heap.get?_push_size _ rfl,rfl⟩) isSubtype_stop ?_)
  exact wpAny_pure (q _ (((Heap.SameBut.update ..).extBut.push _).push _))
end
section
variable {X:Cx} {pins:List (Addr×Obj)} {σ:St} {H:Hp} {s:Shared} {a:Addr} {kvs:List (List Key×V)}
theorem Inv.freezeT (I:Inv X pins σ H s) (h:H a = some (.dT kvs)):∃ o:Obj,s.heap.get? a = some o∧Inv X pins σ (upd H a (.frz o (.dT kvs))) s:=by
  obtain ⟨z,m,vs,rel,o,es,ep,ho,r⟩:=id (I.hok a _ h)
  have ne:∀ {b:Addr} {u:Option HO},H b = u→u≠some (.dT kvs)→b≠a:=fun e n q=>n (by rw [← e,q,h])
  refine ⟨o,ho,I.ok,I.os,I.bare,⟨I.base.keep,I.base.slot,fun b ob e n hx=>?_,I.base.there,fun b xs e=>?_,fun b ob u e=>?_,fun b ps e=>?_⟩,I.loc,I.cell,?_,fun x c e=>?_,fun p hp=>?_,fun b u e=>?_,I.len⟩
  · have:=I.base.free b ob e n hx;rw [upd_ne (ne this (by simp))];exact this
  · have:=I.base.tups b xs e;rw [upd_ne (ne this (by simp))];exact this
  · have:=I.base.frzs b ob u e;rw [upd_ne (ne this (by simp))];exact this
  · obtain ⟨mo,this⟩:=I.base.tbls b ps e;exact ⟨mo,by rw [upd_ne (ne this (by simp))];exact this⟩
  · rw [upd_ne (ne I.free (by simp))];exact I.free
  · have:=I.freeC x c e;rw [upd_ne (ne this (by simp))];exact this
  · obtain ⟨e,n,r⟩:=I.pin p hp;exact ⟨e,by rw [upd_ne (ne n (by simp))];exact n,r⟩
  · have own:∀ {c d:Addr},H c = some (.own d)→upd H a (.frz o (.dT kvs)) c = some (.own d):=fun q=>by rw [upd_ne (ne q (by simp))];exact q
    have tup:∀ {c:Addr} {xs:List V},H c = some (.tup xs)→upd H a (.frz o (.dT kvs)) c = some (.tup xs):=fun q=>by rw [upd_ne (ne q (by simp))];exact q
    by_cases hb:b = a
    · subst hb
      rw [upd_same] at e
      cases e
      exact ⟨ho,(I.hok b _ h).stay (fun _ _ _ q=>q) (fun c q=>own q) (fun c xs q=>tup q)⟩
    · rw [upd_ne hb] at e
      exact (I.hok b u e).stay (fun _ _ _ q=>q) (fun c q=>own q) (fun c xs q=>tup q)
theorem Inv.thawT {o:Obj} (I:Inv X pins σ H s) (h:H a = some (.frz o (.dT kvs))) (h0:∀ o u,X.H₀ a≠some (.frz o u)):Inv X pins σ (upd H a (.dT kvs)) s:=by
  have ne:∀ {b:Addr} {u:Option HO},H b = u→u≠some (.frz o (.dT kvs))→b≠a:=fun e n q=>n (by rw [← e,q,h])
  refine ⟨I.ok,I.os,I.bare,⟨I.base.keep,I.base.slot,fun b ob e n hx=>?_,I.base.there,fun b xs e=>?_,fun b ob u e=>?_,fun b ps e=>?_⟩,I.loc,I.cell,?_,fun x c e=>?_,fun p hp=>?_,fun b u e=>?_,I.len⟩
  · have:=I.base.free b ob e n hx;rw [upd_ne (ne this (by simp))];exact this
  · have:=I.base.tups b xs e;rw [upd_ne (ne this (by simp))];exact this
  · have:=I.base.frzs b ob u e
    rw [upd_ne (fun (q:b = a)=>h0 ob u (by rw [← q];exact e))];exact this
  · obtain ⟨mo,this⟩:=I.base.tbls b ps e;exact ⟨mo,by rw [upd_ne (ne this (by simp))];exact this⟩
  · rw [upd_ne (ne I.free (by simp))];exact I.free
  · have:=I.freeC x c e;rw [upd_ne (ne this (by simp))];exact this
  · obtain ⟨e,n,r⟩:=I.pin p hp;exact ⟨e,by rw [upd_ne (ne n (by simp))];exact n,r⟩
  · have own:∀ {c d:Addr},H c = some (.own d)→upd H a (.dT kvs) c = some (.own d):=fun q=>by rw [upd_ne (ne q (by simp))];exact q
    have tup:∀ {c:Addr} {xs:List V},H c = some (.tup xs)→upd H a (.dT kvs) c = some (.tup xs):=fun q=>by rw [upd_ne (ne q (by simp))];exact q
    by_cases hb:b = a
    · subst hb
      rw [upd_same] at e
      cases e
      exact (I.hok b _ h).2.stay (fun _ _ _ q=>q) (fun c q=>own q) (fun c xs q=>tup q)
    · rw [upd_ne hb] at e
      exact (I.hok b u e).stay (fun _ _ _ q=>q) (fun c q=>own q) (fun c xs q=>tup q)
end
def ItdT (a:Addr) (o:Obj) (kvs:List (List Key×V)):It :=
  ⟨fun i H=>H a = some (.frz o (.dT kvs))∧i < kvs.length,fun i H x H'=>H' = H∧∃ k v b,kvs[i]? = some (k,v)∧x = .ref b∧H b = some (.tup (k.map kV)),fun i H=>H a = some (.frz o (.dT kvs))∧kvs.length≤i⟩
theorem frz_atT {X:Cx} {pins:List (Addr×Obj)} {σ:St} {H:Hp} {s:Shared} {a:Addr} {kvs:List (List Key×V)} {o:Obj} (I:Inv X pins σ H s) (h:H a = some (.frz o (.dT kvs))) :
    (a == sysModules) = false∧∃ es ep,DRaw s.heap a o es ep∧es.size = kvs.length∧∀ i (lt:i < es.size) k v,kvs[i]? = some (k,v)→∃ b,es[i].key = .ref b∧H b = some (.tup (k.map kV)):=by
  obtain ⟨ho,z,m,xs,rel,o',es,ep,ho',c1,c2,c3,c4⟩:=id (I.hok a _ h)
  rw [ho] at ho'
  cases ho'
  have sz:es.size = xs.length:=by rw [← Array.length_toList,c3,List.length_map]
  refine ⟨m,es,ep,⟨ho,c1,c2⟩,sz.trans (Paired.length rel).symm,fun i lt k v hk=>?_⟩
  have get:∀ {l:List (List Key×V)} {q:List (List Key×Addr×Value)} {i:Nat},Paired (fun (p:List Key×V) (q:List Key×Addr×Value)=>p.1 = q.1∧H q.2.1 = some (.tup (p.1.map kV))∧RelV p.2 q.2.2) l q→l[i]? = some (k,v)→∃ x,q[i]? = some x∧H x.2.1 = some (.tup (k.map kV)):=by
    intro l q i r
    induction r generalizing i with
    | nil=>intro e;simp at e
    | @cons p y ps ys hq t ih =>
      intro e
      cases i with
      | zero=>simp at e;subst e;exact ⟨y,rfl,hq.2.1⟩
      | succ j=>simp at e;obtain ⟨x,e1,e2⟩:=ih e;exact ⟨x,by simpa using e1,e2⟩
  obtain ⟨x,e1,e2⟩:=get rel hk
  refine ⟨x.2.1,?_,e2⟩
  have:es.toList[i]? = some (entryOfKey (tupleKind (mixKind X.prog X.w)) x):=by rw [c3,List.getElem?_map,e1];rfl
  rw [Array.getElem?_toList,Array.getElem?_eq_getElem lt] at this
  rw [Option.some.inj this]
  rfl
theorem turn_keysT {P:Program} {w:World} {K:PySem.W.Frag} {tg:Expr} {o:Obj} {es:Array DictEntry} {ep:Nat} (a it:Addr) (kvs:List (List Key×V)) (ho:o.data = .dict es ep):Turn P w K tg (ItdT a o kvs) [it] it (fun i h=>h.IsKeyIter it a i kvs.length ep) where
  mem:=by simp
  obj:=fun i h st b hb=>by
    have e:b = it:=by simpa using hb
    subst e
    exact keyiter_nocell st
  keep:=fun i h h' st k=>st.at fun o e=>k it (by simp) o e
  item:=by
    intro X hP hw hK hc i pins s σ H E I hf st hg
    subst hP hw hK
    obtain ⟨hfz,hi⟩:=hg
    obtain ⟨m,es',ep',dr,sz,key⟩:=frz_atT I hfz
    obtain ⟨rfl,rfl⟩:es = es'∧ep = ep':=by have:=dr.2.2;rw [ho] at this;cases this;exact ⟨rfl,rfl⟩
    obtain ⟨⟨k,v⟩,hx⟩:∃ p,kvs[i]? = some p:=⟨kvs[i],by simp [hi]⟩
    have lt:i < es.size:=by rw [sz];exact hi
    obtain ⟨b,eb,hb⟩:=key i lt k v hx
    obtain ⟨f0,f1,f2,f3,f4,f5⟩:=hf it (by simp)
    rw [← sz] at st
    refine next_raw st dr lt fun h' st' sb=>?_
    have I1:Inv X pins σ H { s with heap:=h' }:=I.turned (t':=s.toks) (fun b o hb e=>(sb.2 b hb).trans e) f0 f1 f3 f4 f5
    obtain ⟨o2,e2,c2,d2⟩:=id st'
    rw [sz] at st'
    rw [eb]
    exact ⟨_,rfl,go_of (s:={ s with heap:=h' }) e2 c2 d2 (by decide) ⟨.ref b,H,I1,rfl,⟨rfl,k,v,b,hx,rfl,hb⟩,st',fun b hb=>(hf b hb).1⟩⟩
  done:=by
    intro X hP hw hK hc i pins s σ H E I hf st hg
    subst hP hw hK
    obtain ⟨hfz,hi⟩:=hg
    obtain ⟨m,es',ep',dr,sz,key⟩:=frz_atT I hfz
    obtain ⟨rfl,rfl⟩:es = es'∧ep = ep':=by have:=dr.2.2;rw [ho] at this;cases this;exact ⟨rfl,rfl⟩
    obtain ⟨f0,f1,f2,f3,f4,f5⟩:=hf it (by simp)
    rw [← sz] at st
    exact end_raw (I.ok.hd hc) st dr (by omega) fun h' eb=>⟨rfl,I.turned (t':=s.toks) (fun b o hb e=>eb b o hb e) f0 f1 f3 f4 f5⟩
  self:=fun _ _ _ _ _ st h=>wpAny_pyIter_keyiter st h
def FznT (a:Addr) (o:Obj) (kvs:List (List Key×V)) (H1 H2:Hp):Prop:=H2 a = some (.frz o (.dT kvs))∧(H2 = H1∨(H1 a = some (.dT kvs)∧H2 = upd H1 a (.frz o (.dT kvs))))
section
variable {X:Cx} {tg:Expr}
theorem Inv.fznT {pins:List (Addr×Obj)} {σ:St} {H:Hp} {s:Shared} {a:Addr} {kvs:List (List Key×V)} (I:Inv X pins σ H s) (h:Rd H a (.dT kvs)):∃ o H2,FznT a o kvs H H2∧Inv X pins σ H2 s:=by
  rcases h with h | ⟨o,h⟩
  · obtain ⟨o,_,I2⟩:=I.freezeT h
    exact ⟨o,_,⟨upd_same,.inr ⟨h,rfl⟩⟩,I2⟩
  · exact ⟨o,H,⟨h,.inl rfl⟩,I⟩
def ThwT (a:Addr) (o:Obj) (kvs:List (List Key×V)) (H1 H H':Hp):Prop:=(H1 a = some (.dT kvs)∧H' = upd H a (.dT kvs))∨(H1 a≠some (.dT kvs)∧H' = H)
def thawET (a:Addr) (o:Obj) (kvs:List (List Key×V)) (H1:Hp) (D:Ends):Ends where
  nx:=fun σ H=>H a = some (.frz o (.dT kvs))∧∀ H',ThwT a o kvs H1 H H'→D.nx σ H'
  rt:=fun v H=>H a = some (.frz o (.dT kvs))∧∀ H',ThwT a o kvs H1 H H'→D.rt v H'
  bk:=fun _ _=>False
  ct:=fun _ _=>False
def tForDT (te:TE) (g:TG) (tb:TS):TS:=fun D σ H=>te σ H fun x H1=>∃ a kvs,x = .ref a∧Rd H1 a (.dT kvs)∧∀ o H2,FznT a o kvs H1 H2→LoopVC (ItdT a o kvs) g tb (thawET a o kvs H1 D) σ H2
theorem SP.thawT {pins:List (Addr×Obj)} {D:Ends} {f:PySem.Flow} {s':Shared} {a:Addr} {o:Obj} {kvs:List (List Key×V)} {H1:Hp} (h0:H1 a = some (.dT kvs)→∀ o u,X.H₀ a≠some (.frz o u)) (h:SP X pins (thawET a o kvs H1 D) f s'):SP X pins D f s':=by
  have key:∀ {σ:St} {H:Hp},Inv X pins σ H s'→H a = some (.frz o (.dT kvs))→∃ H',Inv X pins σ H' s'∧ThwT a o kvs H1 H H':=fun {σ H} I e=>by
    by_cases hc:H1 a = some (.dT kvs)
    · exact ⟨_,I.thawT e (h0 hc),.inl ⟨hc,rfl⟩⟩
    · exact ⟨H,I,.inr ⟨hc,rfl⟩⟩
  cases f with
  | next =>
    obtain ⟨σ',H',I,e,q⟩:=h
    obtain ⟨H2,I2,t⟩:=key I e
    exact ⟨σ',H2,I2,q H2 t⟩
  | ret v =>
    obtain ⟨x,σ',H',I,r,e,q⟩:=h
    obtain ⟨H2,I2,t⟩:=key I e
    exact ⟨x,σ',H2,I2,r,q H2 t⟩
  | brk=>obtain ⟨_,_,_,q⟩:=h;exact q.elim
  | cont=>obtain ⟨_,_,_,q⟩:=h;exact q.elim
theorem keys_madeT {pins:List (Addr×Obj)} {s1:Shared} {σ:St} {H1:Hp} {a:Addr} {kvs:List (List Key×V)} {R:It→Hp→Prop} {E:Value→Shared→Prop} (I1:Inv X pins σ H1 s1) (hq:Rd H1 a (.dT kvs))
    (q:∀ o H2,FznT a o kvs H1 H2→(H1 a = some (.dT kvs)→∀ o u,X.H₀ a≠some (.frz o u))→R (ItdT a o kvs) H2):wpAny (model X.prog X.w) X.A (pyIter (.ref a)) (PIE X pins σ tg R) E s1:=by
  obtain ⟨o,H2,fz,I2⟩:=I1.fznT hq
  obtain ⟨m,es,ep,dr,sz,key⟩:=frz_atT I2 fz.1
  refine iter_raw m dr ?_
  rw [sz]
  refine ⟨s1.heap.objs.size,[s1.heap.objs.size],_,_,H2,rfl,I2.kept (t':=s1.toks) fun b o e=>Heap.get?_push_of_some _ e,turn_keysT a _ kvs dr.2.2,⟨_,Heap.get?_push_size _ rfl,rfl,rfl⟩,fun b hb=>?_,q o H2 fz (fun hd o u z=>?_)⟩
  · have e:b = s1.heap.objs.size:=by simpa using hb
    subst e
    exact I2.fpOk (Nat.le_refl _) (I2.hok.fresh (Nat.le_refl _))
  · have:=I1.base.frzs a o u z
    rw [hd] at this
    cases this
theorem ps_forDT {iter:Expr} {body:List Stmt} {te:TE} {g:TG} {tb:TS} {pos:Pos} (hp:PassesOwn (model X.prog X.w) X.A X.env X.xe) (hc:X.calm = true) (hi:PE X iter te) (hg:PG X tg g) (hb:PSs X body tb)
    (hs:∀ x,foldedSetIterable iter X.env x = pure x:=by intro _;rfl):PS X (.For tg iter body [] pos) (tForDT te g tb):=by
  intro pins s σ H D I h
  refine for_gen (σ:=σ) hp hc hg hb (thn (hi pins s σ H _ I h) fun v s1 ⟨x,H1,I1,r1,q1⟩=>?_) hs
  obtain ⟨a,kvs,e,hr,q⟩:=q1
  subst e
  cases r1
  exact keys_madeT I1 hr fun o H2 fz h0=>⟨thawET a o kvs H1 D,fun f s'=>SP.thawT h0,q o H2 fz⟩
structure FsT (o:Obj) (a:Addr) (kvs:List (List Key×V)) (H1 H:Hp):Prop where
  rest:∀ b ob,b≠a→H1 b = some ob→H b = some ob
  held:H a = some (.frz o (.dT kvs))
theorem FsT.of {o:Obj} {a:Addr} {kvs:List (List Key×V)} {H1 H2:Hp} (f:FznT a o kvs H1 H2):FsT o a kvs H1 H2:=by
  obtain ⟨h,e | ⟨e1,e2⟩⟩:=f
  · subst e;exact ⟨fun _ _ _ q=>q,h⟩
  · subst e2;exact ⟨fun b ob n q=>by rw [upd_ne n];exact q,h⟩
theorem FsT.thaw {o:Obj} {a:Addr} {kvs:List (List Key×V)} {H1 H H':Hp} (f:FsT o a kvs H1 H) (hr:Rd H1 a (.dT kvs)) (fz:∃ H2,FznT a o kvs H1 H2) (t:ThwT a o kvs H1 H H'):Same H1 H'∧∀ b,b≠a→H' b = H b:=by
  rcases t with ⟨e,rfl⟩ | ⟨e,rfl⟩
  · refine ⟨fun b ob q=>?_,fun b n=>upd_ne n⟩
    by_cases hb:b = a
    · subst hb;rw [upd_same];rw [e] at q;exact q
    · rw [upd_ne hb];exact f.rest b ob hb q
  · refine ⟨fun b ob q=>?_,fun _ _=>rfl⟩
    by_cases hb:b = a
    · subst hb
      obtain ⟨H2,h2,c | ⟨c,_⟩⟩:=fz
      · subst c;rw [h2] at q;rw [← q];exact f.held
      · exact absurd c e
    · exact f.rest b ob hb q
theorem forDT {o:Obj} {a:Addr} {kvs:List (List Key×V)} {H1 H2:Hp} {g:TG} {tb:TS} {D:Ends} {σ:St} (hr:Rd H1 a (.dT kvs)) (fz:FznT a o kvs H1 H2) (Pv:Nat→St→Hp→Prop) (h0:Pv 0 σ H1)
    (hz:∀ i σ H H',(∀ b,b≠a→H' b = H b)→Pv i σ H→Pv i σ H')
    (hs:∀ i k v b σ H,kvs[i]? = some (k,v)→H b = some (.tup (k.map kV))→FsT o a kvs H1 H→Pv i σ H→g (.ref b) σ H fun σ2 H2=>tb
      { nx:=fun σ H=>FsT o a kvs H1 H∧Pv (i + 1) σ H,ct:=fun σ H=>FsT o a kvs H1 H∧Pv (i + 1) σ H,bk:=(thawET a o kvs H1 D).nx,rt:=(thawET a o kvs H1 D).rt } σ2 H2)
    (hd:∀ σ H,Same H1 H→Pv kvs.length σ H→D.nx σ H):LoopVC (ItdT a o kvs) g tb (thawET a o kvs H1 D) σ H2:=by
  have p2:Pv 0 σ H2:=hz 0 σ H1 H2 (by
    obtain ⟨_,e | ⟨_,e⟩⟩:=fz
    · subst e;exact fun _ _=>rfl
    · subst e;exact fun b n=>upd_ne n) h0
  refine ⟨fun i m σ H=>m = kvs.length - i∧i≤kvs.length∧FsT o a kvs H1 H∧Pv i σ H,⟨kvs.length,by simp,Nat.zero_le _,FsT.of fz,p2⟩,?_⟩
  rintro i m σ H ⟨rfl,hi,fs,p⟩
  by_cases hlt:i < kvs.length
  · refine .inr ⟨⟨fs.held,hlt⟩,fun σ' H'=>FsT o a kvs H1 H'∧Pv (i + 1) σ' H',fun σ' H' q=>⟨kvs.length - (i + 1),by omega,rfl,hlt,q.1,q.2⟩,?_⟩
    rintro x H' ⟨rfl,k,v,b,hx,rfl,hb⟩
    exact hs i k v b σ H' hx hb fs p
  · have e:i = kvs.length:=by omega
    subst e
    exact .inl ⟨⟨fs.held,Nat.le_refl _⟩,fs.held,fun H3 t=>let ⟨s1,s2⟩:=fs.thaw hr ⟨_,fz⟩ t;hd σ H3 s1 (hz _ _ _ _ s2 p)⟩
end
end L2
namespace L2
open PySem PySem.Spec PyProof.Rows
def lineK (x y:Str):List Key:=[Sum.inr x,Sum.inr y]
theorem lineK_inj {x y a b:Str} (h:lineK x y = lineK a b):x = a∧y = b:=by
  unfold lineK at h
  injection h with h1 h2
  injection h2 with h2 _
  exact ⟨Sum.inr.inj h1,Sum.inr.inj h2⟩
theorem lt_two24 {n:Nat} (h:n≤100000):n < sizeLine:=Nat.lt_of_le_of_lt h (by decide)
theorem mem_putK {κ:Type} [DecidableEq κ] {kvs:List (κ×V)} {k:κ} {v:V} {p:κ×V} (h:p∈putK kvs k v):p = (k,v)∨(p∈kvs∧p.1≠k):=by
  unfold putK at h
  split at h
  · obtain ⟨q,hq,e⟩:=List.mem_map.mp h
    by_cases c:q.1 = k
    · rw [if_pos c] at e;exact .inl (by rw [← e,c])
    · rw [if_neg c] at e;subst e;exact .inr ⟨hq,c⟩
  · rename_i hn
    rcases List.mem_append.mp h with c | c
    · refine .inr ⟨c,fun e=>hn ?_⟩
      exact List.any_eq_true.mpr ⟨p,c,by simp [e]⟩
    · exact .inl (List.mem_singleton.mp c)
structure UD (kvs:List (List Key×V)) (U:Fl) (ok:Str→Str→Prop):Prop where
  ent:∀ p∈kvs,∃ x y,p = (lineK x y,V.int (U x y))∧ok x y∧cs x < cs y
  get:∀ x y,cs x < cs y→valV kvs (lineK x y) = some (.int (U x y))∨(valV kvs (lineK x y) = none∧U x y = 0)
theorem UD.nil {U:Fl} {ok:Str→Str→Prop} (h:∀ x y,U x y = 0):UD [] U ok:=⟨fun _ h=>absurd h (by simp),fun x y _=>.inr ⟨rfl,h x y⟩⟩
theorem UD.congr {kvs:List (List Key×V)} {U U':Fl} {ok:Str→Str→Prop} (u:UD kvs U ok) (h:∀ x y,U' x y = U x y):UD kvs U' ok:=by
  have e:U' = U:=funext fun x=>funext fun y=>h x y
  rw [e];exact u
theorem UD.put {kvs:List (List Key×V)} {U U':Fl} {ok:Str→Str→Prop} (u:UD kvs U ok) {lo hi:Str} {m:Int} (hl:cs lo < cs hi) (ho:ok lo hi) (h1:U' lo hi = U lo hi + m) (h2:∀ x y,cs x < cs y→¬ (x = lo∧y = hi)→U' x y = U x y) :
    UD (putK kvs (lineK lo hi) (.int (U lo hi + m))) U' ok:=by
  refine ⟨fun p hp=>?_,fun x y hxy=>?_⟩
  · rcases mem_putK hp with e | ⟨hp,ne⟩
    · exact ⟨lo,hi,by rw [e,h1],ho,hl⟩
    · obtain ⟨x,y,e,o,l⟩:=u.ent p hp
      subst e
      refine ⟨x,y,?_,o,l⟩
      rw [h2 x y l fun c=>ne (by rw [c.1,c.2])]
  · rw [valV_put]
    by_cases c:x = lo∧y = hi
    · rw [if_pos (by rw [c.1,c.2]),c.1,c.2,h1];exact .inl rfl
    · rw [if_neg fun e=>c (lineK_inj e),h2 x y hxy c]
      exact u.get x y hxy
def stepU (m:Int) (w:List Str) (i:Nat):Fl:=fun x y=>(if (x,y)∈(stL w).take i then m else 0) + (if (y,x)∈(stL w).take i then m else 0)
theorem stepU_zero (m:Int) (w:List Str) (x y:Str):stepU m w 0 x y = 0:=by unfold stepU;simp
theorem stepU_comm (m:Int) (w:List Str) (i:Nat) (x y:Str):stepU m w i x y = stepU m w i y x:=by unfold stepU;omega
theorem stepU_succ {m:Int} {w:List Str} (nd:w.Nodup) {i:Nat} {a b:Str} (h:(stL w)[i]? = some (a,b)) (hab:a≠b):stepU m w (i + 1) a b = stepU m w i a b + m:=by
  have hn:=stL_new nd h
  unfold stepU
  rw [List.take_add_one,h]
  have e1:(a,b)∈(stL w).take i ++ (some (a,b)).toList:=by simp
  have e2:(b,a)∈(stL w).take i ++ (some (a,b)).toList ↔ (b,a)∈(stL w).take i:=by
    rw [List.mem_append]
    exact ⟨fun c=>c.elim id fun c=>by simp at c;exact absurd c.1.symm hab,.inl⟩
  rw [if_pos e1,if_neg hn]
  by_cases c:(b,a)∈(stL w).take i
  · rw [if_pos c,if_pos (e2.mpr c)];omega
  · rw [if_neg c,if_neg fun z=>c (e2.mp z)];omega
theorem stepU_other {m:Int} {w:List Str} {i:Nat} {a b x y:Str} (h:(stL w)[i]? = some (a,b)) (h1:¬ (x = a∧y = b)) (h2:¬ (x = b∧y = a)):stepU m w (i + 1) x y = stepU m w i x y:=by
  unfold stepU
  rw [List.take_add_one,h]
  have e:∀ u v,¬ (u = a∧v = b)→((u,v)∈(stL w).take i ++ (some (a,b)).toList ↔ (u,v)∈(stL w).take i):=fun u v hu=>by
    rw [List.mem_append]
    exact ⟨fun c=>c.elim id fun c=>by simp at c;exact absurd c hu,.inl⟩
  have e1:=e x y h1
  have e2:=e y x fun c=>h2 ⟨c.2,c.1⟩
  simp only [e1,e2]
theorem stepU_all (m:Int) (w:List Str) {k:Nat} (hk:w.length = k + 1) (x y:Str):stepU m w k x y = (if (x,y)∈stL w then m else 0) + (if (y,x)∈stL w then m else 0):=by
  unfold stepU
  rw [List.take_of_length_le (by rw [stL_len];omega)]
theorem useA_snoc (R:Rts) (e:Int×List Str) (x y:Str):useA (R ++ [e]) x y = useA R x y + (if (x,y)∈stL e.2 then e.1 else 0):=by
  unfold useA;rw [sumL_app];simp [sumL]
theorem min_max {a b:Str} (h:a≠b):(cs a < cs b∧(if decide (cs b < cs a) then b else a) = a∧(if decide (cs a < cs b) then b else a) = b)∨(cs b < cs a∧(if decide (cs b < cs a) then b else a) = b∧(if decide (cs a < cs b) then b else a) = a):=by
  by_cases c:cs a < cs b
  · refine .inl ⟨c,?_,by simp [c]⟩
    have:¬ cs b < cs a:=fun d=>List.lt_irrefl _ (List.lt_trans c d)
    simp [this]
  · have d:cs b < cs a:=by
      rcases Nat.lt_or_ge 0 1 with _ | _
      · by_cases z:cs b < cs a
        · exact z
        · exact absurd (cs_inj (List.le_antisymm (List.not_lt.mp z) (List.not_lt.mp c))) h
      · omega
    exact .inr ⟨d,by simp [d],by simp [c]⟩
end L2
namespace L2
open PySem PySem.Spec PyProof.Rows
section
variable {ks:List Str} {f:Str→Row} {one other:Str}
theorem bfsN_turn (r:Fl) (os:List Str):∀ n,bfsN ks.reverse r os n = bfsN ks r os n
  | 0=>rfl
  | n + 1=>by
    show bfsStep ks.reverse r (bfsN ks.reverse r os n) n = bfsStep ks r (bfsN ks r os n) n
    rw [bfsN_turn r os n]
    unfold bfsStep
    rw [sortS_congr (List.reverse_perm ks)]
theorem shortF_turn (r:Fl) (os ts:List Str):shortF ks.reverse r os ts = shortF ks r os ts:=by
  unfold shortF
  rw [bfsN_turn]
theorem stepP_turn (os ts:List Str):stepP ks.reverse os ts = stepP ks os ts:=by
  funext s
  unfold stepP
  rw [shortF_turn]
theorem stepR_turn:stepR ks.reverse one other = stepR ks one other:=by
  funext s
  unfold stepR
  rw [shortF_turn]
theorem rc_turn (nd:∀ x,((f x).map (·.1)).Nodup):rc (fun x=>(f x).reverse) = rc f:=by
  funext x y
  unfold rc
  rw [look_rev (nd x)]
theorem rc_phi_turn (nd:∀ x,((f x).map (·.1)).Nodup) (r:Fl):rc (phiR (fun x=>(f x).reverse) r) = rc (phiR f r):=by
  funext x y
  unfold rc
  rw [look_phi,look_phi,look_rev (nd x)]
theorem RoutesOf.turned {a a':Int} {R R':Rts} (nd:∀ x,((f x).map (·.1)).Nodup) (h:RoutesOf ks f one other a R) (h':RoutesOf ks.reverse (fun x=>(f x).reverse) one other a' R'):a = a'∧R = R':=by
  obtain ⟨r,D,l,⟨n,e⟩,hs,_,_,⟨m,g⟩,hl,_⟩:=h
  obtain ⟨r',D',l',⟨n',e'⟩,hs',_,_,⟨m',g'⟩,hl',_⟩:=h'
  rw [stepP_turn,rc_turn nd] at e'
  rw [shortF_turn] at hs'
  rw [stepR_turn,rc_phi_turn nd] at g'
  have fx:∀ {r:Fl} {a:Int},shortF ks r [one] [other] = []→stepP ks [one] [other] (r,a) = (r,a):=fun {r a} h=>by
    unfold stepP
    show (match shortF ks r [one] [other] with | []=>_ | x :: w=>_) = _
    rw [h]
  have k1:=itN_one (f:=stepP ks [one] [other]) (n:=n) (m:=n') (a:=(rc f,0)) (by rw [← e];exact fx hs) (by rw [← e'];exact fx hs')
  rw [← e,← e'] at k1
  cases k1
  have fy:∀ {D:Fl} {l:Int} {R:Rts},¬ 0 < l→stepR ks one other (D,l,R) = (D,l,R):=fun {D l R} h=>by
    unfold stepR
    rw [if_neg h]
  have k2:=itN_one (f:=stepR ks one other) (n:=m) (m:=m') (a:=(rc (phiR f r),a,[])) (by rw [← g];exact fy hl) (by rw [← g'];exact fy hl')
  rw [← g,← g'] at k2
  cases k2
  exact ⟨rfl,rfl⟩
theorem inB_sort (R:List Str):inB (sortS R) = inB R:=by
  funext x
  unfold inB
  by_cases c:x∈R
  · rw [decide_eq_true c,decide_eq_true (mem_sortS.mpr c)]
  · rw [decide_eq_false c,decide_eq_false fun z=>c (mem_sortS.mp z)]
theorem LeastS.sorted {c:Fl} {os ts:List Str} {a:Int} {R:List Str} (h:LeastS ks c os ts a R):LeastS ks c os ts a (sortS R) :=
  ⟨fun x hx=>h.mem x (mem_sortS.mp hx),by rw [inB_sort];exact h.side,by rw [inB_sort];exact h.eq,h.least,fun S hS e x hx=>h.within S hS e x (mem_sortS.mp hx)⟩
theorem LeastS.drop {c:Fl} {a:Int} {R:List Str} (h:LeastS ks c [one] [other] a R) {y:Str} (hy:y∈R) (hne:y≠one):a < leave ks c (inB (R.filter fun x=>decide (x≠y))):=by
  have sd:Side ks (inB [one]) (inB [other]) (inB (R.filter fun x=>decide (x≠y))):=by
    refine ⟨fun x hx hh=>?_,fun x hx hh=>?_⟩
    · have h1:=h.side.has x hx hh
      have e:x = one:=by simpa [inB] using hh
      subst e
      simp only [inB,decide_eq_true_eq] at h1 ⊢
      exact List.mem_filter.mpr ⟨h1,by simpa using Ne.symm hne⟩
    · have h1:=h.side.lacks x hx hh
      simp only [inB,decide_eq_false_iff_not] at h1 ⊢
      exact fun z=>h1 (List.mem_filter.mp z).1
  have l1:=h.least _ sd
  by_cases c:a < leave ks c (inB (R.filter fun x=>decide (x≠y)))
  · exact c
  · have:=h.within _ sd (by omega) y hy
    simp [inB] at this
theorem LeastS.tri {c:Fl} {third:Str} {a b d:Int} {R R1 R2:List Str} (h:LeastS ks c [one] [other] a R) (h1:LeastS ks c [one] [third] b R1) (h2:LeastS ks c [third] [other] d R2):b≤a∨d≤a:=by
  by_cases t:third∈R
  · right
    have:=h2.least (inB R) ⟨fun x hx hh=>?_,h.side.lacks⟩
    · rw [h.eq] at this;exact this
    · have e:x = third:=by simpa [inB] using hh
      subst e
      simpa [inB] using t
  · left
    have:=h1.least (inB R) ⟨h.side.has,fun x hx hh=>?_⟩
    · rw [h.eq] at this;exact this
    · have e:x = third:=by simpa [inB] using hh
      subst e
      simpa [inB] using t
theorem LeastS.oneside {c:Fl} {os ts:List Str} {a:Int} {R R':List Str} (h:LeastS ks c os ts a R) (h':LeastS ks c os ts a R') (n:R.Nodup) (n':R'.Nodup):sortS R = sortS R':=by
  refine sortS_congr ((List.perm_ext_iff_of_nodup n n').mpr fun x=>⟨fun hx=>?_,fun hx=>?_⟩)
  · simpa [inB] using h.within _ h'.side h'.eq x hx
  · simpa [inB] using h'.within _ h.side h.eq x hx
theorem rtR_rev (zs:Rz):rtR zs.reverse = (rtR zs).reverse:=by unfold rtR;rw [List.map_reverse]
theorem rtV_rev (zs:Rz):rtV zs.reverse = (rtV zs).reverse:=by unfold rtV;rw [List.map_reverse]
theorem useA_rev (R:Rts) (x y:Str):useA R.reverse x y = useA R x y:=sumL_perm (List.reverse_perm R) _
theorem Wy.turn {w:List Str} {k:Nat} (h:Wy ks one other w k):Wy ks.reverse one other w k:=⟨h.len,h.fst,h.lst,h.nd,fun x hx=>List.mem_reverse.mpr (h.mem x hx)⟩
theorem cross_leave (nk:ks.Nodup) (r:RowsIn ks f) (ss:List Str):(sumL ks fun x=>if x∈ss then rowOut (f x) ss else 0) = leave ks (rc f) (inB ss):=by
  unfold leave
  refine sumL_congr fun x hx=>?_
  by_cases c:x∈ss
  · rw [if_pos c,rowOut_eq nk r hx]
    refine sumL_congr fun y hy=>?_
    by_cases d:y∈ss
    · rw [if_pos d,if_neg (by simp [inB,d])]
    · rw [if_neg d,if_pos (by simp [inB,c,d])]
  · rw [if_neg c]
    refine (sumL_zero fun y hy=>?_).symm
    rw [if_neg (by simp [inB,c])]
end
end L2
namespace L2
open PySem PySem.Spec PyProof.Rows
theorem preSum_take (xs:Array (Int×Tok)) (ns:List Int) (h:xs.toList.map (·.1) = ns):∀ n,preSum (numAt xs) n = sumL (ns.take n) id
  | 0=>by simp [sumL,preSum]
  | n + 1=>by
    have e:preSum (numAt xs) (n + 1) = preSum (numAt xs) n + numAt xs n:=rfl
    rw [e,preSum_take xs ns h n,List.take_add_one]
    cases c:ns[n]? with
    | none =>
      have hl:ns.length≤n:=List.getElem?_eq_none_iff.mp c
      have:numAt xs n = 0:=by
        unfold numAt
        rw [Array.getElem?_eq_none (by rw [← Array.length_toList,← List.length_map (·.1),h];exact hl)];rfl
      rw [this];simp
    | some v =>
      have hv:numAt xs n = v:=by
        rw [← h,List.getElem?_map,Array.getElem?_toList] at c
        unfold numAt
        cases d:xs[n]? with
        | none=>rw [d] at c;cases c
        | some p=>rw [d] at c;exact Option.some.inj c
      rw [hv]
      show _ = sumL (List.take n ns ++ [v]) id
      rw [sumL_app];simp [sumL]
section
variable {X:Cx}
theorem call_sum (hc:X.calm = true):CallR X (.builtin "sum") (fun vs H Q=>∃ a ns,vs = [.ref a]∧SqL X.K H a (ns.map V.int)∧Q (.int (sumL ns id)) H):=by
  rintro pins s σ H vs us Q I r ⟨a,ns,rfl,hr,q⟩
  obtain ⟨u,rfl,ru⟩:=vals1 r
  cases ru
  obtain ⟨its,rv,pl,hz⟩:=I.list hr
  obtain ⟨xs,rfl,hxs⟩:=ints_items rv
  have hit:(xs.map (fun p=>Value.int p.1 p.2)).toArray = intItems xs.toArray:=by simp [intItems]
  have hl:=pl.isList
  rw [hit] at hl
  refine sum_intListG (I.ok.hd hc) hl fun h' tk t' hk=>⟨.int _,H,I.kept (t':=tk) hk,⟨t',rfl⟩,?_⟩
  rw [preSum_take xs.toArray ns (by simpa using hxs),List.take_of_length_le (by rw [← hxs];simp)]
  exact q
def tThaw (te:TE):TE:=fun σ H Q=>te σ H fun x H1=>∃ a o kvs,H1 a = some (.frz o (.dK kvs))∧H a = some (.dK kvs)∧Q x (upd H1 a (.dK kvs))
end
end L2
namespace L2
open PySem PySem.Spec PyProof.Rows PySem.SeqAt
section
variable {X:Cx} {pins:List (Addr×Obj)} {σ:St} {H:Hp} {s:Shared}
theorem vstr_at {xs:List Str} {its:List Value} (r:Vals (xs.map V.str) its) {j:Nat} {v:Value} (h:its[j]? = some v):∃ x t,xs[j]? = some x∧v = .str x t:=by
  have hl:j < its.length:=(List.getElem?_eq_some_iff.mp h).1
  have hx:j < (xs.map V.str).length:=by rw [r.length];exact hl
  obtain ⟨u,e1,e2⟩:=r.get (List.getElem?_eq_getElem hx)
  rw [h] at e1
  cases e1
  rw [List.getElem_map] at e2
  obtain ⟨t,rfl⟩:=e2
  rw [List.length_map] at hx
  exact ⟨xs[j],t,List.getElem?_eq_getElem hx,rfl⟩
theorem all_alike {xs ys:List Str} (h:xs.length = ys.length):((List.range xs.length).all fun j=>xs[j]? == ys[j]?) = decide (xs = ys):=by
  by_cases e:xs = ys
  · subst e;simp
  · rw [decide_eq_false e]
    apply Bool.eq_false_iff.mpr
    intro c
    rw [List.all_eq_true] at c
    refine e (List.ext_getElem? fun j=>?_)
    by_cases hj:j < xs.length
    · simpa using c j (List.mem_range.mpr hj)
    · rw [List.getElem?_eq_none (by omega),List.getElem?_eq_none (by omega)]
theorem strs_rc (I:Inv X pins σ H s) (hu:X.A.units + 1 < cLine) {a b:Addr} {xs ys:List Str} (h1:SqL X.K H a (xs.map V.str)) (h2:SqL X.K H b (ys.map V.str)) :
    RcAt X.A s (.ref a) (.ref b) (decide (xs = ys))∧RcNeAt X.A s (.ref a) (.ref b) (!decide (xs = ys)):=by
  obtain ⟨i1,v1,l1,_⟩:=I.list h1
  obtain ⟨i2,v2,l2,_⟩:=I.list h2
  have m1:=v1.length;have m2:=v2.length
  rw [List.length_map] at m1 m2
  by_cases hl:xs.length = ys.length
  · have ie:∀ j (g1:j < i1.toArray.size) (g2:j < i2.toArray.size),EqAt X.A.in1 s i1.toArray[j] i2.toArray[j] (xs[j]? == ys[j]?):=fun j g1 g2=>by
      have g1':j < i1.length:=by simpa using g1
      have g2':j < i2.length:=by simpa using g2
      obtain ⟨x,t,ex,e1⟩:=vstr_at v1 (List.getElem?_eq_getElem g1')
      obtain ⟨y,u,ey,e2⟩:=vstr_at v2 (List.getElem?_eq_getElem g2')
      have c1:i1.toArray[j] = .str x t:=by rw [List.getElem_toArray];exact e1
      have c2:i2.toArray[j] = .str y u:=by rw [List.getElem_toArray];exact e2
      rw [c1,c2,ex,ey]
      have:=EqAt.str_str (A:=X.A.in1) (s:=s) x t y u
      have z:(x == y) = (some x == some y):=by simp
      rw [← z];exact this
    have sz:i1.toArray.size = xs.length:=by rw [List.size_toArray];omega
    have rc:=RcAt.lists (A:=X.A) (e:=fun j=>xs[j]? == ys[j]?) l1.isList l2.isList (by simp;omega) (by omega) ie
    have rn:=RcNeAt.lists (A:=X.A) (e:=fun j=>xs[j]? == ys[j]?) l1.isList l2.isList (by simp;omega) (by omega) ie
    rw [sz,all_alike hl] at rc rn
    exact ⟨rc,rn⟩
  · have ne:decide (xs = ys) = false:=decide_eq_false fun e=>hl (by rw [e])
    rw [ne]
    have sz:(i1.toArray.size != i2.toArray.size) = true:=by simp;omega
    exact ⟨RcAt.lists_lengths l1.isList l2.isList sz (by omega),RcNeAt.lists_lengths l1.isList l2.isList sz (by omega)⟩
end
section
variable {X:Cx}
theorem op_neSs (hu:X.A.units + 1 < cLine):OpR X (compareOp .NotEq) (fun x y H Q=>∃ (a b:Addr) (xs ys:List Str),x = .ref a∧y = .ref b∧SqL X.K H a (xs.map V.str)∧SqL X.K H b (ys.map V.str)∧Q (.bl (!decide (xs = ys))) H):=by
  rintro pins s σ H x y v u Q I rx ry ⟨a,b,xs,ys,rfl,rfl,h1,h2,q⟩
  cases rx;cases ry
  exact (strs_rc I hu h1 h2).2 X.prog X.w X.xe _ ⟨.bl _,H,I,rfl,q⟩
end
end L2
namespace L2
open PySem PySem.Spec PyProof.Rows PySem.SeqAt
section
open AutoSeq1 (wpAny_loadPart')
open MeetsSeq MeetsSeq2 MeetsSeq3
variable {P:Program} {w:World}
end
section
variable {X:Cx}
end
end L2
namespace L2
open PySem PySem.Spec PyProof.Rows PySem.SeqAt
theorem erase_perm {α:Type}:∀ {l:List α} {i:Nat} (h:i < l.length),(l[i] :: l.eraseIdx i).Perm l
  | a :: l,0,_=>List.Perm.refl _
  | a :: l,i + 1,h=>by
    have h':i < l.length:=by simpa using h
    show (l[i] :: a :: l.eraseIdx i).Perm (a :: l)
    exact (List.Perm.swap _ _ _).trans (List.Perm.cons _ (erase_perm h'))
section
variable {M:Model} {A:Around} {E:Value→Shared→Prop} {s:Shared}
theorem any_choose {src:Source} {n:Nat} {Q:Nat→Shared→Prop} (hn:n≠0) (h:∀ i d,i < n→Q i { s with drawn:=d }):wpAny M A (choose src n) Q E s:=fun Γ p _=>by
  show Sem.wp M Γ (.choose src n .pure) _ _ p s
  rw [Sem.wp_choose]
  exact ⟨hn,h _ _ (Nat.mod_lt _ (by omega))⟩
theorem any_draw {α:Type}:∀ (n:Nat) (xs:List α) {s:Shared} {Q:List α→Shared→Prop},n = xs.length→(∀ ys d,ys.Perm xs→Q ys { s with drawn:=d })→wpAny M A (drawOrder n xs) Q E s
  | 0,xs,s,Q,hn,h=>by
    have e:xs = []:=by cases xs with | nil=>rfl | cons a l=>simp at hn
    subst e
    unfold drawOrder
    exact wpAny_pure (h [] s.drawn (List.Perm.refl _))
  | n + 1,xs,s,Q,hn,h=>by
    cases xs with
    | nil=>simp at hn
    | cons a l =>
      unfold drawOrder
      refine wpAny_bind (any_choose (by simp) fun i d hi=>?_)
      have e:=List.getElem?_eq_getElem hi
      rw [e]
      dsimp only
      have hl:n = ((a :: l).eraseIdx i).length:=by rw [List.length_eraseIdx_of_lt hi];simp at hn ⊢;exact hn
      refine wpAny_bind (any_draw n _ hl fun ys d' hp=>wpAny_pure (h _ d' ?_))
      exact (List.Perm.cons _ hp).trans (erase_perm hi)
end
theorem standIn_led (t:SetTable) (n:Nat):(t.orStandIn n).led = t.led:=by unfold SetTable.orStandIn;split <;> rfl
theorem layNew_led (t:SetTable) (es:Array (Int×Value)) (h:Int) (x:Value):(layNew t es h x).2.1.led = t.led:=by
  unfold layNew
  cases t.freeSlot h with
  | none=>rfl
  | some sw=>exact standIn_led _ _
theorem relayAll_led (t:SetTable) (es:Array (Int×Value)) (n:Nat):(relayAll t es n).2.1.led = t.led:=by
  unfold relayAll
  split
  · rename_i t' order e
    have:t'.led = t.led:=by
      unfold SetTable.relaid SetTable.laid at e
      simp only [Option.bind_eq_bind,Option.bind_eq_some_iff] at e
      obtain ⟨ow,_,e⟩:=e
      cases e
      rfl
    dsimp only
    split
    · exact this
    · rfl
  · rfl
theorem relayAll_plain {t:SetTable} (hp:t.plain = false) (es:Array (Int×Value)) (n:Nat):(relayAll t es n).2.1.plain = false:=by
  unfold relayAll
  split
  · rename_i t' order e
    have:t'.plain = t.plain:=by
      unfold SetTable.relaid SetTable.laid at e
      simp only [Option.bind_eq_bind,Option.bind_eq_some_iff] at e
      obtain ⟨ow,_,e⟩:=e
      cases e
      rfl
    dsimp only
    split
    · rw [this];exact hp
    · rfl
  · rfl
def nmV:Value→Str
  | .str x _=>x
  | _=>⟨#[]⟩
def EntOk (w:World) (e:Int×Value):Prop:=∃ x t,e = (hashStr w x,Value.str x t)
def SetP (P:Program) (w:World) (h:Heap) (a:Addr) (ms:List Str):Prop :=
  ∃ o es ep t,h.get? a = some o∧o.ExactSet∧o.data = .set es ep t∧(∀ e∈es.toList,EntOk w e)∧es.toList.map (fun e=>nmV e.2) = ms∧ms.Nodup∧es.size < scanBound∧t.fits es.size = true ∧
    (w.params.followText "set-order" = true∨t.led = true)∧(ms = []∨t.plain = false)
theorem SetP.move {P:Program} {w:World} {h h':Heap} {a:Addr} {ms:List Str} (x:SetP P w h a ms) (e:∀ o,h.get? a = some o→h'.get? a = some o):SetP P w h' a ms:=by
  obtain ⟨o,es,ep,t,ho,rest⟩:=x
  exact ⟨o,es,ep,t,e o ho,rest⟩
theorem elems_ent {P:Program} {w:World} {l:List (Int×Value)} (h:∀ e∈l,EntOk w e):ElemsOf (strKind P w) l:=fun e he=>by
  obtain ⟨x,t,rfl⟩:=h e he
  exact ⟨⟨x,strKind_is _ _ _ _,rfl⟩,rfl⟩
theorem is_nm {P:Program} {w:World} {e:Int×Value} (h:EntOk w e) (x:Str):(strKind P w).is x e.2 = true ↔ nmV e.2 = x:=by
  obtain ⟨y,t,rfl⟩:=h
  have:=(strKind_is P w y t)
  show (strKind P w).is x (.str y t) = true ↔ y = x
  rw [KeyKind.is_eq_decide this x]
  simp [eq_comm]
section
variable {P:Program} {w:World} {A:Around} {E:Value→Shared→Prop} {s:Shared}
theorem setP_store {h:Heap} {a:Addr} {o:Obj} {es:Array (Int×Value)} {ep:Nat} {t:SetTable} (ho:h.get? a = some o) (hex:o.ExactSet) (hd:o.data = .set es ep t) {es':Array (Int×Value)} {t':SetTable}
    (he:∀ e∈es'.toList,EntOk w e) (nd:(es'.toList.map fun e=>nmV e.2).Nodup) (hb:es'.size < scanBound) (hf:t'.fits es'.size = true) (hl:w.params.followText "set-order" = true∨t'.led = true) (hp:t'.plain = false) :
    SetP P w (h.update a (Obj.putSet es' t')) a (es'.toList.map fun e=>nmV e.2)∧(h.update a (Obj.putSet es' t')).get? a = some { o with data:=.set es' (ep + 1) t' }:=by
  have hS:∃ S:Str→Bool,∀ k,S k = true ↔ ∃ e∈es'.toList,(strKind P w).is k e.2 = true:=⟨fun k=>decide (∃ e∈es'.toList,(strKind P w).is k e.2 = true),fun k=>by simp⟩
  obtain ⟨S,hS⟩:=hS
  obtain ⟨h1,h2⟩:=SetOf_store (knd:=strKind P w) ho hex hd (elems_ent he) hS hb hf
  exact ⟨⟨_,es',ep + 1,t',h1,hex,rfl,he,rfl,nd,hb,hf,hl,.inr hp⟩,h1⟩
theorem tailP {g:Bool→Sem Unit} (hg:∀ (b:Bool) (s1:Shared) (Q':Unit→Shared→Prop),Q' () s1→wpAny (model P w) A (g b) Q' E s1) {a:Addr} {o:Obj} {es:Array (Int×Value)} {ep:Nat} {t:SetTable} (ho:s.heap.get? a = some o) (hex:o.ExactSet) (hd:o.data = .set es ep t)
    {fs:Array (Int×Value)} {u:SetTable} (he:∀ e∈fs.toList,EntOk w e) (nd:(fs.toList.map fun e=>nmV e.2).Nodup) (hb:fs.size < scanBound) (hf:u.fits fs.size = true) (hl:w.params.followText "set-order" = true∨u.led = true) (hp:u.plain = false) {wd:Bool} {R:Option Bool→Shared→Prop}
    (h:∀ h' ms',Heap.SameBut a s.heap h'→SetP P w h' a ms'→ms'.Perm (fs.toList.map fun e=>nmV e.2)→R (some true) { s with heap:=h' }) :
    wpAny (model P w) A (do storeSet a fs u;if (!wd && u.tooFull) = true then do { g (relayAll u fs (SetTable.grown fs.size)).2.2;storeSet a (relayAll u fs (SetTable.grown fs.size)).1 (relayAll u fs (SetTable.grown fs.size)).2.1;pure (some true) } else pure (some true)) R E s:=by
  refine wpAny_bind (wpAny_storeSet_of ho hd (?_) (fits_of_scanBound hb))
  obtain ⟨q1,ho1⟩:=setP_store (P:=P) ho hex hd he nd hb hf hl hp
  have sb1:=Heap.SameBut.update s.heap a (Obj.putSet fs u)
  split
  · have hpm:=relayAll_perm u fs (SetTable.grown fs.size)
    have hfr:=relayAll_fits u fs (SetTable.grown fs.size)
    have hlr:=relayAll_led u fs (SetTable.grown fs.size)
    have hpr:=relayAll_plain hp fs (SetTable.grown fs.size)
    generalize relayAll u fs (SetTable.grown fs.size) = Rl at hpm hfr hlr hpr ⊢
    obtain ⟨f2,u2,g2⟩:=Rl
    dsimp only at hpm hfr hlr hpr ⊢
    have sz:f2.size = fs.size:=by rw [← Array.length_toList,hpm.length_eq,Array.length_toList]
    have hb2:f2.size < scanBound:=by rw [sz];exact hb
    have pm2:(f2.toList.map fun e=>nmV e.2).Perm (fs.toList.map fun e=>nmV e.2):=hpm.map _
    refine wpAny_bind (hg _ _ _ (wpAny_bind (wpAny_storeSet_of ho1 rfl (?_) (fits_of_scanBound hb2))))
    obtain ⟨q2,_⟩:=setP_store (P:=P) ho1 hex rfl (fun e h=>he e (hpm.mem_iff.mp h)) (pm2.nodup_iff.mpr nd) hb2 hfr (by rw [hlr];exact hl) hpr
    exact wpAny_pure (h _ _ (sb1.trans (Heap.SameBut.update _ a _)) q2 pm2)
  · exact wpAny_pure (h _ _ sb1 q1 (List.Perm.refl _))
theorem setP_add {a:Addr} {ms:List Str} {x:Str} {t:Tok} {Q:Bool→Shared→Prop} (hS:SetP P w s.heap a ms) (room:ms.length + 1 < scanBound)
    (h:∀ h' ms' b,Heap.SameBut a s.heap h'→SetP P w h' a ms'→(∀ y,y∈ms' ↔ y∈ms∨y = x)→ms'.length≤ms.length + 1→Q b { s with heap:=h' }):wpAny (model P w) A (setAddHashed a (.str x t) (hashStr w x)) Q E s:=by
  have hS0:=hS
  obtain ⟨o,es,ep,tb,ho,hex,hd,he,hms,nd,hb,hf,hl,hp⟩:=hS
  have hel:=elems_ent (P:=P) he
  have hkey:(strKind P w).is x (.str x t) = true:=strKind_is _ _ _ _
  have hlen:es.size = ms.length:=by rw [← hms,List.length_map,Array.length_toList]
  unfold setAddHashed setAddHashedIn
  refine wpAny_holding (wpAny_bind (wpAny_setState_of ho hd hf ?_))
  dsimp only
  rw [byScan_of (x:=.str x t) rfl hb hel]
  simp only [↓reduceIte]
  unfold setAddByScan
  refine wpAny_bind (wpAny_bind (wpAny_rule (wpAny_bind (wpAny_setScan_of hkey ho hd hf hel ?_))))
  have e0:s = { s with heap:=s.heap }:=by cases s;rfl
  cases hr:List.findIdx? (fun e=>(strKind P w).is x e.2) es.toList with
  | some j =>
    dsimp only
    obtain ⟨hj,hpj,_⟩:=List.findIdx?_eq_some_iff_getElem.mp hr
    have hx:x∈ms:=by
      rw [← hms]
      exact List.mem_map.mpr ⟨_,List.getElem_mem hj,(is_nm (he _ (List.getElem_mem hj)) x).mp hpj⟩
    refine wpAny_pure (wpAny_pure ?_)
    rw [e0]
    exact h s.heap ms _ (Heap.SameBut.refl a s.heap) hS0 (fun y=>⟨.inl,fun c=>c.elim id fun e=>e ▸ hx⟩) (by omega)
  | none =>
    dsimp only
    have hx:x∉ms:=fun c=>by
      rw [← hms] at c
      obtain ⟨e,hm,q⟩:=List.mem_map.mp c
      have:=List.findIdx?_eq_none_iff.mp hr e hm
      rw [(is_nm (he e hm) x).mpr q] at this
      cases this
    have hpm:=layNew_perm tb es (hashStr w x) (.str x t)
    have hfi:=layNew_fits tb es (hashStr w x) (.str x t)
    have hle:=layNew_led tb es (hashStr w x) (.str x t)
    generalize layNew tb es (hashStr w x) (.str x t) = Ln at hpm hfi hle ⊢
    obtain ⟨fs,u,wd,gv⟩:=Ln
    dsimp only at hpm hfi hle ⊢
    rw [Array.toList_push] at hpm
    have hef:∀ e∈fs.toList,EntOk w e:=fun e hm=>by
      rcases List.mem_append.mp (hpm.mem_iff.mp hm) with c | c
      · exact he e c
      · exact ⟨x,t,List.mem_singleton.mp c⟩
    have pmn:(fs.toList.map fun e=>nmV e.2).Perm (ms ++ [x]):=by
      have:=hpm.map fun e=>nmV e.2
      rw [List.map_append,hms] at this
      exact this
    have ndf:(fs.toList.map fun e=>nmV e.2).Nodup:=pmn.nodup_iff.mpr (List.nodup_append.mpr ⟨nd,by simp,fun u hu v hv=>by rw [List.mem_singleton.mp hv];rintro rfl;exact hx hu⟩)
    have hsz:fs.size = ms.length + 1:=by rw [← Array.length_toList,hpm.length_eq,List.length_append,Array.length_toList,hlen];rfl
    have hbf:fs.size < scanBound:=by omega
    have hlf:w.params.followText "set-order" = true∨u.led = true:=by rw [hle];exact hl
    have hend:∀ h' ms',Heap.SameBut a s.heap h'→SetP P w h' a ms'→ms'.Perm (fs.toList.map fun e=>nmV e.2)→Q true { s with heap:=h' }:=fun h' ms' sb hS' pm=>by
      have pm':=pm.trans pmn
      exact h h' ms' true sb hS' (fun y=>by rw [pm'.mem_iff];simp) (by rw [pm'.length_eq];simp)
    have hgw:∀ (b:Bool) {s1:Shared} {Q':Unit→Shared→Prop},Q' () s1→wpAny (model P w) A (match b with | true=>rule "set.scan.the-table-gave-way" | false=>pure ()) Q' E s1:=fun b s1 Q' hq=>by
      cases b
      · exact wpAny_pure hq
      · exact wpAny_rule hq
    refine wpAny_bind (hgw _ ?_)
    cases hpl:u.plain with
    | true =>
      simp only [↓reduceIte]
      refine wpAny_bind ?_
      rw [hashByValue_scannable 8 (x:=.str x t) rfl]
      refine wpAny_pure ?_
      rw [show plainKind (Value.str x t) = false from rfl]
      simp only [Bool.false_eq_true,↓reduceIte]
      refine tailP (u:={ u with plain:=false }) (?_) ho hex hd hef ndf hbf (SetTable.fits_plain_off hfi) hlf rfl (?_)
      · intro b s1 Q' hq
        cases b
        · exact wpAny_pure hq
        · exact wpAny_rule hq
      · intro h' ms' sb hS' pm
        exact wpAny_pure (hend h' ms' sb hS' pm)
    | false =>
      simp only [Bool.false_eq_true,↓reduceIte]
      refine wpAny_bind (wpAny_pure ?_)
      simp only [↓reduceIte]
      refine tailP (?_) ho hex hd hef ndf hbf hfi hlf hpl (?_)
      · intro b s1 Q' hq
        cases b
        · exact wpAny_pure hq
        · exact wpAny_rule hq
      · intro h' ms' sb hS' pm
        exact wpAny_pure (hend h' ms' sb hS' pm)
end
end L2
namespace L2
open PySem PySem.Spec PyProof.Rows PySem.SeqAt
section
variable {P:Program} {w:World} {A:Around} {E:Value→Shared→Prop} {s:Shared}
theorem set_new_led (a:Value) {Q1:Value→Shared→Prop} (h:Q1 (.ref s.heap.objs.size) { s with heap:=s.heap.push (setObj (!w.params.followText "set-order")) }):codeAny (model P w) A (.call (.builtin "set.__new__") ⟨[.type "set",a],[]⟩) (wants Q1 E) s:=by
  refine codeAny_of_tree (?_)
  show wpAny _ A.in1 (checkBuiltinCall "set.__new__" ⟨[.type "set",a],[]⟩ >>= fun _=>again (.builtin "set.__new__" ⟨[.type "set",a],[]⟩)) _ _ s
  refine wpAny_bind (wpAny_of_eq (F.newCall_set_1 a) (wpAny_pure ⟨plainId_quiet F.plain_set_new _,codeAny_builtin F.entry_set_new (?_)⟩))
  rw [Around.under_plainId F.plain_set_new _]
  unfold Builtin.«set.__new__» Builtin.Frozenset.newClass
  have hsub:=sub_set_self
  obtain ⟨hp,g,d,tk,os⟩:=s
  dsimp only
  wp_walk
  refine wpAny_askSetting (wpAny_pure ?_)
  dsimp only
  simp only [newObj]
  refine wpAny_bind (wpAny_alloc (wpAny_pure (wpAny_pure h)))
end
theorem setP_fresh {P:Program} {w:World} {h:Heap} {S:Addr} (e:h.get? S = some (setObj (!w.params.followText "set-order"))):SetP P w h S []:=by
  refine ⟨_,#[],0,_,e,⟨rfl,rfl,rfl⟩,rfl,fun e he=>by simp at he,rfl,List.nodup_nil,by decide,rfl,?_,.inl rfl⟩
  cases w.params.followText "set-order" with
  | true=>exact .inl rfl
  | false=>exact .inr rfl
section
variable {prog:Program} {w:World} {A:Around} {R:Result→Shared→Prop} {I:Addr} {fp wr:List Addr} {G:Array GenState→Array GenState→Prop} {n:Nat} {P:Nat→Value→Prop} {St:Nat→Shared→Prop}
theorem upd_loopP (W:WalksS prog w A.in1 I fp wr G n P St) (S:Addr) (hSf:S∉fp) (ss:List Str) (hn:ss.length = n) (hval:∀ i v,P i v→∃ x t,ss[i]? = some x∧v = .str x t) (hb:n + 1 < scanBound) :
    ∀ (k i:Nat) (s:Shared) (ms:List Str),n - i = k→i≤n→St i s→SetP prog w s.heap S ms→ms.length≤i→(∀ y,y∈ms ↔ y∈ss.take i) →
      (∀ s' ms',Moved (S :: wr) G s s'→SetP prog w s'.heap S ms'→ms'.length≤n→(∀ y,y∈ms' ↔ y∈ss)→R (.ok (.ret .none)) s') →
      codeAny (model prog w) A (.builtin "set.update.loop" ⟨[.ref S,.ref I],[]⟩) R s:=by
  have hSw:S∉wr:=fun h=>hSf (W.sub _ h)
  intro k
  induction k with
  | zero =>
    intro i s ms hk hi hst hS hml hmm hR
    obtain rfl:i = n:=by omega
    refine codeAny_builtin F.entry_set_update_loop (?_)
    rw [Around.under_plainId F.plain_set_update_loop _]
    show wpAny _ A.in1 (pyNext (.ref I) >>= fun _=>_) _ _ s
    refine wpAny_bind (W.done s _ _ hst fun s' hm=>wpAny_pure (hR s' ms (hm.mono fun b hb=>List.mem_cons_of_mem _ hb) (hS.move fun o e=>hm.heap S _ hSw e) hml fun y=>?_))
    rw [hmm y,List.take_of_length_le (by omega)]
  | succ k ih =>
    intro i s ms hk hi hst hS hml hmm hR
    have hlt:i < n:=by omega
    refine codeAny_builtin F.entry_set_update_loop (?_)
    rw [Around.under_plainId F.plain_set_update_loop _]
    show wpAny _ A.in1 (pyNext (.ref I) >>= fun _=>_) _ _ s
    refine wpAny_bind (W.item i s _ _ hlt hst fun v s' hP hst' hm=>?_)
    obtain ⟨x,t,hx,rfl⟩:=hval i v hP
    have hS':=hS.move fun o e=>hm.heap S o hSw e
    show wpAny _ A.in1 (holding [Value.str x t] (setAdd S (.str x t)) >>= fun _=>_) _ _ s'
    refine wpAny_bind (wpAny_holding ?_)
    unfold setAdd
    refine wpAny_holding (wpAny_bind ((strKind prog w).pyHash (k:=x) (strKind_is _ _ _ _) ?_))
    refine setP_add (s:={ s' with toks:=s'.toks + 1 }) hS' (by omega) fun h' ms' b hsb hS2 hm2 hl2=>?_
    refine wpAny_pure ⟨plainId_quiet F.plain_set_update_loop _,ih (i + 1) _ ms' (by omega) hlt (W.frame _ s' _ _ hst' (Nat.le_succ _) fun b hb o e=>?_) hS2 (by omega) (fun y=>?_) fun s'' ms'' hm'' hS'' hl'' hmm''=>?_⟩
    · rw [hsb.2 b (fun h:b = S=>hSf (h ▸ hb))];exact e
    · rw [hm2 y,hmm y,List.take_add_one,hx];simp
    · refine hR s'' ms'' (Moved.trans W.gtrans ((hm.mono fun b hb=>List.mem_cons_of_mem _ hb).then_heap (Nat.le_succ _) fun b o hb e=>?_) hm'') hS'' hl'' hmm''
      rw [hsb.2 b (fun h:b = S=>hb (by rw [h];exact List.mem_cons_self))];exact e
end
section
variable {prog:Program} {w:World} {A:Around} {E:Value→Shared→Prop} {s:Shared}
theorem call_setP {l:Addr} {items:Array Value} {ss:List Str} {Q:Value→Shared→Prop} (hh:A.handled = none) (hl:s.heap.IsList l items) (hv:StrsAre items.toList ss) (hb:items.size + 1 < scanBound)
    (h:∀ (h':Heap) (tk:Nat) (ms:List Str),SetP prog w h' s.heap.objs.size ms→ms.length≤ss.length→(∀ y,y∈ms ↔ y∈ss)→(∀ b o,s.heap.get? b = some o→h'.get? b = some o)→Q (.ref s.heap.objs.size) { s with heap:=h',toks:=tk }) :
    wpAny (model prog w) A (call (.type "set") [.ref l]) Q E s:=by
  have hsz:ss.length = items.size:=by rw [← Array.length_toList];exact (strs_len hv).symm
  obtain ⟨c,tl,hmro⟩:=F.called_set.mro
  have hmade:=F.called_set.made
  have hsub:=F.called_set.sub
  have h1:=F.called_set.notType
  have h2:=F.called_set.canCreate
  have hct:=F.typeCall_set_1 (.ref l)
  refine wpAny_call (codeAny_of_tree ?_)
  show wpAny _ _ (callAny (.type "set") _) _ _ _
  refine wpAny_pure ⟨Code.quiet_builtin _ (by decide +kernel),codeAny_builtin F.entry_type_call ?_⟩
  rw [Around.under_plain (weight_type_call_type "set" [.ref l] []) rfl]
  repeat (any_goals (first | assumption | wp_step))
  refine codeAny_mono (set_new_led (.ref l) (E:=E) (Q1:=fun obj s₁=>obj = .ref s.heap.objs.size∧s₁ = { s with heap:=s.heap.push (setObj (!w.params.followText "set-order")) }) ⟨rfl,rfl⟩) fun r s₁ hr=>?_
  cases r with
  | error e=>exact hr
  | ok fl =>
    cases fl with
    | ret obj =>
      obtain ⟨rfl,rfl⟩:=hr
      generalize hled:(!w.params.followText "set-order") = led at *
      have hS:(s.heap.push (setObj led)).get? s.heap.objs.size = some (setObj led):=Heap.get?_push_size _ rfl
      have hT:Shared.TypeIs { s with heap:=s.heap.push (setObj led) } (.ref s.heap.objs.size) "set":=⟨_,hS,rfl⟩
      have hli:=F.called_set.init.lookup
      have hbi:=F.called_set.init.bind (.ref s.heap.objs.size)
      repeat (any_goals (first | assumption | wp_step))
      refine codeAny_mono (codeAny_call_builtin (R:=wants (fun r s₂=>r = .none∧∃ h' tk ms,s₂ = { s with heap:=h',toks:=tk }∧SetP prog w h' s.heap.objs.size ms∧ms.length≤ss.length∧(∀ y,y∈ms ↔ y∈ss)∧∀ b o,s.heap.get? b = some o→h'.get? b = some o) E) F.called_set.init.plain F.entry_set_init (check_set_init_1 hT ?_)) fun r₂ s₂ hr₂=>?_
      · have hl1:(s.heap.push (setObj led)).IsList l items:=hl.push _
        obtain ⟨ol,hol,hcl,nl,hdl⟩:=hl
        obtain ⟨ocls,odict,odata,oslots⟩:=ol
        simp only at hcl hdl
        subst hcl;subst hdl
        have hol':(s.heap.push (setObj led)).get? l = some { cls:=.type "list",dict:=odict,data:=.seq items nl,slots:=oslots }:=Heap.get?_push_of_some _ hol
        have hsls:=F.sub_list_set
        have hslf:=F.sub_list_frozenset
        have hne:(Value.type "list" == Value.type "dict") = false:=by decide
        have hlS:l < s.heap.objs.size:=Heap.lt_size hol
        unfold Builtin.«set.__init__» noKeywords Builtin.Frozenset.updateFrom
        generalize hPI:pyIter = PI
        wp_walk
        subst hPI
        refine wpAny_pyIter_list hl1 (wpAny_bind (wpAny_runValue ?_))
        have hI:(s.heap.push (setObj led)).objs.size = s.heap.objs.size + 1:=Heap.size_push ..
        have ne1:l≠(s.heap.push (setObj led)).objs.size:=by rw [hI];exact Nat.ne_of_lt (Nat.lt_succ_of_lt hlS)
        have ne2:s.heap.objs.size≠(s.heap.push (setObj led)).objs.size:=by rw [hI];exact Nat.ne_of_lt (Nat.lt_succ_self _)
        refine upd_loopP ((Walks.list (by simp [hh]) _ l ne1 items).toS) s.heap.objs.size (by simp only [List.mem_cons,List.not_mem_nil,or_false,not_or];exact ⟨ne2,Nat.ne_of_gt hlS⟩) ss hsz (fun i v hvi=>?_) hb (items.size - 0) 0 _ [] (by omega) (Nat.zero_le _) ⟨⟨_,Heap.get?_push_size _ rfl,rfl,rfl⟩,hl1.push _⟩ (setP_fresh (by rw [hled];exact Heap.get?_push_of_some _ hS)) (Nat.zero_le _) (fun y=>by simp) fun s' ms' hm hS' hl' hm'=>?_
        · exact strs_at hv (by rw [Array.getElem?_toList];exact hvi)
        · obtain ⟨h',g',d',tk',os'⟩:=s'
          have eg:g' = s.gens:=hm.gens
          have ed:d' = s.drawn:=hm.drawn
          have eo:os' = s.os:=hm.os
          subst eg;subst ed;subst eo
          refine wpAny_pure (wpAny_pure ⟨rfl,h',tk',ms',rfl,hS',by rw [hsz];exact hl',hm',fun b o e=>?_⟩)
          have hlt:=Heap.lt_size e
          refine hm.heap b o ?_ (Heap.get?_push_of_some _ (Heap.get?_push_of_some _ e))
          simp only [List.mem_cons,List.not_mem_nil,or_false,not_or]
          exact ⟨Nat.ne_of_lt hlt,by rw [hI];exact Nat.ne_of_lt (Nat.lt_succ_of_lt hlt)⟩
      · cases r₂ with
        | error e=>exact hr₂
        | ok fl₂ =>
          cases fl₂ with
          | ret r =>
            obtain ⟨rfl,h',tk,ms',rfl,hS',hl',hm',hk'⟩:=hr₂
            repeat (any_goals (first | assumption | wp_step))
            exact h _ _ ms' hS' hl' hm' hk'
          | _=>exact hr₂.elim
    | _=>exact hr.elim
end
end L2
namespace L2
open PySem PySem.Spec PyProof.Rows PySem.SeqAt
theorem sit_next:Slot "set_iterator" "__next__" "set_iterator.__next__":=.of (owner:="set_iterator") (n:="__next__") (by rw [typeLookup_type,builtinLookup_eq_fast];kernel_rfl) (by decide +kernel) (by decide +kernel) (by decide +kernel) (by first | exact .inl (by decide +kernel) | exact .inr (by decide +kernel)) (by rw [isSubtype_type];kernel_rfl)
theorem sit_entry:entryFor table "set_iterator.__next__" = some Builtin.«set_iterator.__next__»:=entryFor_of_fast (by kernel_rfl)
theorem sit_args (a:Value):argsOk "set_iterator.__next__" ⟨[a],[]⟩:=by unfold argsOk;kernel_rfl
theorem set_entry_iter:entryFor table "set.__iter__" = some Builtin.«frozenset.__iter__»:=entryFor_alias (id':="frozenset.__iter__") (by kernel_rfl) rfl (by decide +kernel) (by kernel_rfl)
theorem sit_iter:Slot "set_iterator" "__iter__" "set_iterator.__iter__":=.of (owner:="set_iterator") (n:="__iter__") (by rw [typeLookup_type,builtinLookup_eq_fast];kernel_rfl) (by decide +kernel) (by decide +kernel) (by decide +kernel) (by first | exact .inl (by decide +kernel) | exact .inr (by decide +kernel)) (by rw [isSubtype_type];kernel_rfl)
theorem sit_iargs (a:Value):argsOk "set_iterator.__iter__" ⟨[a],[]⟩:=by unfold argsOk;kernel_rfl
theorem sit_ientry:entryFor table "set_iterator.__iter__" = some Builtin.«dict_keyiterator.__iter__»:=entryFor_alias (id':="dict_keyiterator.__iter__") (by kernel_rfl) rfl (by decide +kernel) (by kernel_rfl)
end L2
namespace L2
open PySem PySem.Spec PyProof.Rows PySem.SeqAt
structure SObj (w:World) (h:Heap) (S:Addr) (o:Obj) (es:Array (Int×Value)) (ep:Nat) (t:SetTable):Prop where
  at_:h.get? S = some o
  ex:o.ExactSet
  dat:o.data = .set es ep t
  fit:t.fits es.size = true
  led:w.params.followText "set-order" = true∨t.led = true
  pl:es.size = 0∨t.plain = false
  small:es.size < scanBound
def SIter (h:Heap) (it:Addr) (fs:Array Value):Prop:=∃ o,h.get? it = some o∧o.cls = .type "set_iterator"∧o.data = .fields fs
section
variable {P:Program} {w:World} {A:Around} {E:Value→Shared→Prop} {s:Shared} {S it:Addr} {o:Obj} {es:Array (Int×Value)} {ep:Nat} {t:SetTable}
theorem SIter.isT {fs:Array Value} (x:SIter s.heap it fs):s.TypeIs (.ref it) "set_iterator":=let ⟨o,h1,h2,_⟩:=x;⟨o,h1,h2⟩
theorem set_drawn {Q:Bool→Shared→Prop} (x:SObj w s.heap S o es ep t) (h:Q (!w.params.followText "set-order" && (!t.plain && decide (es.size > 1))) s):wpAny (model P w) A (setDrawn S) Q E s:=by
  unfold setDrawn
  refine wpAny_bind (wpAny_setState_of x.at_ x.dat x.fit ?_)
  dsimp only
  unfold setsByText
  refine wpAny_bind (wpAny_bind (wpAny_askSetting (wpAny_pure ?_)))
  exact wpAny_pure h
theorem iter_set {Q:Value→Shared→Prop} (x:SObj w s.heap S o es ep t)
    (h1:(!w.params.followText "set-order" && (!t.plain && decide (es.size > 1))) = false→∀ h',(∀ b u,s.heap.get? b = some u→h'.get? b = some u)→SIter h' s.heap.objs.size #[rawInt 0,rawInt 0,.ref S,rawInt es.size,rawInt ep]→Q (.ref s.heap.objs.size) { s with heap:=h' })
    (h2:(!w.params.followText "set-order" && (!t.plain && decide (es.size > 1))) = true→∀ h' (T it:Addr) (d:Drawn) (ys:List Nat),ys.Perm (List.range es.size)→(∀ b u,s.heap.get? b = some u→h'.get? b = some u)→s.heap.objs.size≤it→s.heap.objs.size≤T→T≠it→h'.IsTuple T (ys.map fun (i:Nat)=>rawInt i).toArray→SIter h' it #[.ref T,rawInt 0,.ref S,rawInt es.size,rawInt ep]→Q (.ref it) { s with heap:=h',drawn:=d }) :
    wpAny (model P w) A (pyIter (.ref S)) Q E s:=by
  have hT:s.TypeIs (.ref S) "set":=⟨o,x.at_,x.ex.1⟩
  refine wpAny_pyIter_slot hT F.slot_set_iter (wpAny_call_entry F.slot_set_iter hT set_entry_iter (?_) (F.args_set_iter_1 _))
  unfold Builtin.«frozenset.__iter__» Builtin.Frozenset.slot0 slotArgs
  simp only [List.isEmpty_nil,Bool.not_true,Bool.false_eq_true,↓reduceIte,bind_assoc,List.length_nil,bne_self_eq_false]
  unfold Builtin.Frozenset.addrOf Builtin.Frozenset.sizeOf
  refine wpAny_bind (wpAny_pure ?_)
  try dsimp only
  refine wpAny_bind (wpAny_pure (wpAny_bind (wpAny_bind (wpAny_setEntries_of x.at_ x.dat x.fit (wpAny_pure ?_)))))
  have hT2:∀ {h':Heap} {i:Addr} {fs:Array Value},SIter h' i fs→∃ u,h'.get? i = some u∧u.cls = .type "set_iterator":=fun y=>let ⟨u,a,b,_⟩:=y;⟨u,a,b⟩
  refine wpAny_bind (set_drawn x ?_)
  cases hd:(!w.params.followText "set-order" && (!t.plain && decide (es.size > 1))) with
  | false =>
    simp only [Bool.false_eq_true,↓reduceIte]
    refine wpAny_bind (wpAny_pure (wpAny_bind (wpAny_setEpoch_of x.at_ x.dat x.fit ?_)))
    unfold newFields
    refine wpAny_bind (wpAny_newObj_type (?_))
    have hi:SIter (s.heap.push { cls:=.type "set_iterator",data:=.fields #[rawInt 0,rawInt 0,.ref S,rawInt es.size,rawInt ep] }) s.heap.objs.size #[rawInt 0,rawInt 0,.ref S,rawInt es.size,rawInt ep]:=⟨_,Heap.get?_push_size _ rfl,rfl,rfl⟩
    exact wpAny_pure ⟨_,rfl,"set_iterator",_,hT2 hi,sit_next.lookup,h1 hd _ (fun b u e=>Heap.get?_push_of_some _ e) hi⟩
  | true =>
    simp only [↓reduceIte]
    refine wpAny_bind (any_draw es.size (List.range es.size) (by simp) fun ys d hp=>?_)
    simp only [newTuple]
    have hsz:ys.length < scanBound:=by rw [hp.length_eq,List.length_range];exact x.small
    refine wpAny_bind (wpAny_newObj_type (?_) (by have:=fits_of_scanBound hsz;simp [sizeOk];omega))
    refine wpAny_bind (wpAny_setEpoch_of (s:={ s with heap:=_,drawn:=d }) (Heap.get?_push_of_some _ x.at_) x.dat x.fit ?_)
    unfold newFields
    refine wpAny_bind (wpAny_newObj_type (?_))
    dsimp only
    have hs1:(s.heap.push { cls:=.type "tuple",data:=.seq (ys.map fun (i:Nat)=>rawInt i).toArray }).objs.size = s.heap.objs.size + 1:=Heap.size_push ..
    have hi:∀ q,SIter ((s.heap.push { cls:=.type "tuple",data:=.seq (ys.map fun (i:Nat)=>rawInt i).toArray }).push { cls:=.type "set_iterator",data:=.fields q }) (s.heap.push { cls:=.type "tuple",data:=.seq (ys.map fun (i:Nat)=>rawInt i).toArray }).objs.size q:=fun q=>⟨_,Heap.get?_push_size _ rfl,rfl,rfl⟩
    refine wpAny_pure ⟨_,rfl,"set_iterator",_,hT2 (hi _),sit_next.lookup,h2 hd _ s.heap.objs.size _ d ys hp (fun b u e=>Heap.get?_push_of_some _ (Heap.get?_push_of_some _ e)) ?_ (Nat.le_refl _) ?_ ?_ (hi _)⟩
    · rw [hs1];exact Nat.le_succ _
    · rw [hs1];exact Nat.ne_of_lt (Nat.lt_succ_self _)
    · exact ⟨_,Heap.get?_push_of_some _ (Heap.get?_push_size _ rfl),rfl,0,rfl⟩
end
end L2
namespace L2
open PySem PySem.Spec PyProof.Rows PySem.SeqAt
section
variable {P:Program} {w:World} {A:Around} {E:Value→Shared→Prop} {s:Shared} {S it T:Addr} {o:Obj} {es:Array (Int×Value)} {ep:Nat} {t:SetTable}
theorem next_drawn {i:Nat} {ys:List Nat} {Q:Option Value→Shared→Prop} (x:SObj w s.heap S o es ep t) (hp:ys.Perm (List.range es.size)) (hT:s.heap.IsTuple T (ys.map fun (i:Nat)=>rawInt i).toArray) (hit:SIter s.heap it #[.ref T,rawInt i,.ref S,rawInt es.size,rawInt ep]) (hi:i < es.size)
    (q:∀ h' j e,ys[i]? = some j→es[j]? = some e→SIter h' it #[.ref T,rawInt (i + 1:Nat),.ref S,rawInt es.size,rawInt ep]→Heap.SameBut it s.heap h'→Q (some e.2) { s with heap:=h' }):wpAny (model P w) A (pyNext (.ref it)) Q E s:=by
  obtain ⟨u,g1,g2,g3⟩:=id hit
  unfold pyNext
  refine wpAny_bind (wpAny_attempt (wpAny_callSpecial?_slot (name:=Str.ofString "__next__") hit.isT sit_next (wpAny_call_entry sit_next hit.isT sit_entry (?_) (sit_args _))))
  unfold Builtin.«set_iterator.__next__» slotArgs
  simp only [List.isEmpty_nil,Bool.not_true,Bool.false_eq_true,↓reduceIte,bind_assoc,List.length_nil,bne_self_eq_false]
  refine wpAny_bind (wpAny_pure ?_)
  try dsimp only
  refine wpAny_bind (wpAny_fieldsOf g1 g3 ?_)
  simp only [rawInt]
  refine wpAny_bind (wpAny_setEntries_of x.at_ x.dat x.fit ?_)
  simp only [bne_self_eq_false,Bool.false_eq_true,↓reduceIte]
  obtain ⟨oT,tt,gT1,gT2,gT3⟩:∃ oT tt,s.heap.get? T = some oT∧oT.cls = .type "tuple"∧oT.data = .seq (ys.map fun (i:Nat)=>rawInt i).toArray tt:=by
    obtain ⟨a,b,c,d,e⟩:=hT
    exact ⟨a,d,b,c,e⟩
  refine wpAny_bind (wpAny_seqItems gT1 gT3 ?_)
  have hl:ys.length = es.size:=by rw [hp.length_eq,List.length_range]
  have hy:ys[i]? = some ys[i]:=List.getElem?_eq_getElem (by omega)
  have hj:ys[i] < es.size:=List.mem_range.mp (hp.mem_iff.mp (List.getElem_mem (by omega)))
  have hpl:(ys.map fun (i:Nat)=>rawInt i).toArray[(i:Int).toNat]? = some (.int ys[i] 0):=by
    rw [Int.toNat_natCast,List.getElem?_toArray,List.getElem?_map,hy];rfl
  dsimp only
  rw [hpl]
  dsimp only
  unfold setNextDrawn
  refine wpAny_bind (wpAny_bind (wpAny_setState_of x.at_ x.dat x.fit ?_))
  dsimp only
  rw [if_neg (by simp),Int.toNat_natCast,Array.getElem?_eq_getElem hj]
  refine wpAny_pure ?_
  refine wpAny_bind (wpAny_setField g1 g3 (by simp) (?_))
  have hit':SIter (s.heap.update it (Obj.mapFields (·.setIfInBounds 1 (Value.int ((i:Int) + 1) 0)))) it #[.ref T,rawInt (i + 1:Nat),.ref S,rawInt es.size,rawInt ep]:=⟨_,Heap.get?_update_self _ g1 (Obj.isFreed_of_fields (Obj.data_mapFields g3 _)),(Obj.cls_mapFields ..).trans g2,by rw [Obj.data_mapFields g3];simp [rawInt]⟩
  exact wpAny_pure ⟨_,rfl,wpAny_pure (q _ _ _ hy (Array.getElem?_eq_getElem hj) hit' (Heap.SameBut.update ..))⟩
theorem end_drawn {ys:List Nat} {Q:Option Value→Shared→Prop} (nh:A.handled = none) (x:SObj w s.heap S o es ep t) (hp:ys.Perm (List.range es.size)) (hT:s.heap.IsTuple T (ys.map fun (i:Nat)=>rawInt i).toArray) (hit:SIter s.heap it #[.ref T,rawInt es.size,.ref S,rawInt es.size,rawInt ep])
    (q:∀ h',Heap.ExtBut it s.heap h'→Q none { s with heap:=h' }):wpAny (model P w) A (pyNext (.ref it)) Q E s:=by
  obtain ⟨u,g1,g2,g3⟩:=id hit
  unfold pyNext
  refine wpAny_bind (wpAny_attempt (wpAny_callSpecial?_slot (name:=Str.ofString "__next__") hit.isT sit_next (wpAny_call_entry sit_next hit.isT sit_entry (?_) (sit_args _))))
  unfold Builtin.«set_iterator.__next__» slotArgs
  simp only [List.isEmpty_nil,Bool.not_true,Bool.false_eq_true,↓reduceIte,bind_assoc,List.length_nil,bne_self_eq_false]
  refine wpAny_bind (wpAny_pure ?_)
  try dsimp only
  refine wpAny_bind (wpAny_fieldsOf g1 g3 ?_)
  simp only [rawInt]
  refine wpAny_bind (wpAny_setEntries_of x.at_ x.dat x.fit ?_)
  simp only [bne_self_eq_false,Bool.false_eq_true,↓reduceIte]
  obtain ⟨oT,tt,gT1,gT2,gT3⟩:∃ oT tt,s.heap.get? T = some oT∧oT.cls = .type "tuple"∧oT.data = .seq (ys.map fun (i:Nat)=>rawInt i).toArray tt:=by
    obtain ⟨a,b,c,d,e⟩:=hT
    exact ⟨a,d,b,c,e⟩
  refine wpAny_bind (wpAny_seqItems gT1 gT3 ?_)
  have hl:ys.length = es.size:=by rw [hp.length_eq,List.length_range]
  have hpl:(ys.map fun (i:Nat)=>rawInt i).toArray[(es.size:Int).toNat]? = none:=by
    rw [Int.toNat_natCast,List.getElem?_toArray,List.getElem?_map,List.getElem?_eq_none (by omega)];rfl
  dsimp only
  rw [hpl]
  dsimp only
  refine wpAny_bind (wpAny_setField g1 g3 (by simp) (?_))
  have g1':=Heap.get?_update_self (Obj.mapFields (·.setIfInBounds 0 (Value.int 0 0))) g1 (Obj.isFreed_of_fields (Obj.data_mapFields g3 _))
  have g3':=Obj.data_mapFields g3 (·.setIfInBounds 0 (Value.int 0 0))
  refine wpAny_bind (wpAny_setField (s:={ s with heap:=_ }) g1' g3' (by simp) (?_))
  simp only [newExc,newTuple]
  refine wpAny_bind (wpAny_bind (wpAny_newObj_type (?_) (by size_fits)))
  refine wpAny_bind (m:=firstArgMember _ _) (wpAny_of_eq (a:=Value.none) (by first | rfl | (simp only [firstArgMember];rfl)) (?_))
  refine wpAny_newObj_type (?_) (by size_fits)
  simp only [raiseNew]
  refine wpAny_bind (wpAny_handled ?_)
  rw [show A.in1.handled = none from nh]
  refine wpAny_bind (wpAny_pure (wpAny_throw (?_)))
  refine wpAny_bind (wpAny_isInstance (T:="StopIteration") (b:=true) (⟨_,Heap.get?_push_size _ rfl,rfl⟩) isSubtype_stop ?_)
  exact wpAny_pure (q _ ((((Heap.SameBut.update ..).trans (Heap.SameBut.update ..)).extBut.push _).push _))
theorem pick_go {α:Type} (next:Nat→Nat):∀ (n k:Nat) (l:List α) (out:Array α),l.length = n→(pickOrder.go next n k l out).toList.Perm (out.toList ++ l)
  | 0,k,l,out,h=>by
    have e:l = []:=by cases l with | nil=>rfl | cons a r=>simp at h
    subst e
    unfold pickOrder.go
    simp
  | n + 1,k,l,out,h=>by
    have hlt:next k % l.length < l.length:=Nat.mod_lt _ (by omega)
    unfold pickOrder.go
    rw [List.getElem?_eq_getElem hlt]
    dsimp only
    refine (pick_go next n (k + 1) _ _ (by rw [List.length_eraseIdx_of_lt hlt];omega)).trans ?_
    rw [Array.toList_push,List.append_assoc]
    exact List.Perm.append_left _ (erase_perm hlt)
theorem pick_perm {α:Type} (next:Nat→Nat) (xs:Array α):(pickOrder next xs).toList.Perm xs.toList:=by
  unfold pickOrder
  simpa using pick_go next xs.size 0 xs.toList #[] (by simp)
end
end L2
namespace L2
open PySem PySem.Spec PyProof.Rows PySem.SeqAt
section
variable {P:Program} {w:World} {A:Around} {E:Value→Shared→Prop} {s:Shared} {S it T:Addr} {o:Obj} {es:Array (Int×Value)} {ep:Nat} {t:SetTable}
def NextIs (w:World) (S:Addr) (es:Array (Int×Value)) (ep:Nat) (t:SetTable) (sl i:Nat) (r:Option (Value×Nat)):Prop :=
  (w.params.followText "set-order" = true∧r = ((pickOrder (w.params.setOrder S ep) es)[i]?).map fun e=>(e.2,sl)) ∨
  (w.params.followText "set-order" = false∧es.size≤1∧r = (match es[SetTable.below t.place sl]?,t.place[SetTable.below t.place sl]? with | some (_,x),some j=>some (x,j + 1) | _,_=>none))
theorem set_next {sl i:Nat} {r:Option (Value×Nat)} {Q:Option (Value×Nat)→Shared→Prop} (x:SObj w s.heap S o es ep t) (hr:NextIs w S es ep t sl i r) (h:Q r s):wpAny (model P w) A (setNext S sl i ep) Q E s:=by
  unfold setNext
  refine wpAny_bind (wpAny_setState_of x.at_ x.dat x.fit ?_)
  dsimp only
  unfold setsByText
  refine wpAny_bind (wpAny_bind (wpAny_askSetting (wpAny_pure ?_)))
  rcases hr with ⟨hb,rfl⟩ | ⟨hb,hsm,rfl⟩
  · simp only [show (model P w).w.params.followText "set-order" = true from hb,↓reduceIte,bne_self_eq_false,Bool.false_eq_true]
    refine wpAny_bind ?_
    unfold setWalk
    refine wpAny_bind (wpAny_setState_of x.at_ x.dat x.fit ?_)
    dsimp only
    unfold setsByText
    refine wpAny_bind (wpAny_bind (wpAny_askSetting (wpAny_pure ?_)))
    simp only [show (model P w).w.params.followText "set-order" = true from hb,↓reduceIte]
    refine wpAny_bind (wpAny_askSetting (wpAny_pure ?_))
    exact wpAny_pure h
  · simp only [show (model P w).w.params.followText "set-order" = false from hb,Bool.false_eq_true,↓reduceIte]
    have hled:t.led = true:=x.led.resolve_left (by rw [hb];decide)
    refine wpAny_ite_split (fun hc=>absurd (show (!t.plain && decide (es.size > 1)) = true from hc) (by simp;omega)) (fun _=>?_)
    refine wpAny_bind ?_
    show wpAny _ _ (ite ((!t.led && !es.isEmpty) = true) _ _) _ _ _
    rw [hled]
    refine wpAny_ite_split (fun hc=>absurd hc (by simp)) (fun _=>wpAny_pure (wpAny_pure h))
theorem next_told {sl i:Nat} {v:Value} {nx:Nat} {Q:Option Value→Shared→Prop} (x:SObj w s.heap S o es ep t) (hit:SIter s.heap it #[rawInt sl,rawInt i,.ref S,rawInt es.size,rawInt ep]) (hr:NextIs w S es ep t sl i (some (v,nx)))
    (q:∀ h',SIter h' it #[rawInt nx,rawInt (i + 1:Nat),.ref S,rawInt es.size,rawInt ep]→Heap.SameBut it s.heap h'→Q (some v) { s with heap:=h' }):wpAny (model P w) A (pyNext (.ref it)) Q E s:=by
  obtain ⟨u,g1,g2,g3⟩:=id hit
  unfold pyNext
  refine wpAny_bind (wpAny_attempt (wpAny_callSpecial?_slot (name:=Str.ofString "__next__") hit.isT sit_next (wpAny_call_entry sit_next hit.isT sit_entry (?_) (sit_args _))))
  unfold Builtin.«set_iterator.__next__» slotArgs
  simp only [List.isEmpty_nil,Bool.not_true,Bool.false_eq_true,↓reduceIte,bind_assoc,List.length_nil,bne_self_eq_false]
  refine wpAny_bind (wpAny_pure ?_)
  try dsimp only
  refine wpAny_bind (wpAny_fieldsOf g1 g3 ?_)
  simp only [rawInt]
  refine wpAny_bind (wpAny_setEntries_of x.at_ x.dat x.fit ?_)
  simp only [bne_self_eq_false,Bool.false_eq_true,↓reduceIte]
  simp only [Int.toNat_natCast]
  refine wpAny_bind (set_next x hr ?_)
  dsimp only
  refine wpAny_bind (wpAny_setField g1 g3 (by simp) (?_))
  have g1':=Heap.get?_update_self (Obj.mapFields (·.setIfInBounds 0 (Value.int (nx:Int) 0))) g1 (Obj.isFreed_of_fields (Obj.data_mapFields g3 _))
  have g3':=Obj.data_mapFields g3 (·.setIfInBounds 0 (Value.int (nx:Int) 0))
  refine wpAny_bind (wpAny_setField (s:={ s with heap:=_ }) g1' g3' (by simp) (?_))
  have hit':SIter ((s.heap.update it (Obj.mapFields (·.setIfInBounds 0 (Value.int (nx:Int) 0)))).update it (Obj.mapFields (·.setIfInBounds 1 (Value.int ((i:Int) + 1) 0)))) it #[rawInt nx,rawInt (i + 1:Nat),.ref S,rawInt es.size,rawInt ep]:=⟨_,Heap.get?_update_self _ g1' (Obj.isFreed_of_fields (Obj.data_mapFields g3' _)),(Obj.cls_mapFields ..).trans ((Obj.cls_mapFields ..).trans g2),by rw [Obj.data_mapFields g3'];simp [rawInt]⟩
  exact wpAny_pure ⟨_,rfl,wpAny_pure (q _ hit' ((Heap.SameBut.update ..).trans (Heap.SameBut.update ..)))⟩
theorem end_told {sl i:Nat} {Q:Option Value→Shared→Prop} (nh:A.handled = none) (x:SObj w s.heap S o es ep t) (hit:SIter s.heap it #[rawInt sl,rawInt i,.ref S,rawInt es.size,rawInt ep]) (hr:NextIs w S es ep t sl i none)
    (q:∀ h',Heap.ExtBut it s.heap h'→Q none { s with heap:=h' }):wpAny (model P w) A (pyNext (.ref it)) Q E s:=by
  obtain ⟨u,g1,g2,g3⟩:=id hit
  unfold pyNext
  refine wpAny_bind (wpAny_attempt (wpAny_callSpecial?_slot (name:=Str.ofString "__next__") hit.isT sit_next (wpAny_call_entry sit_next hit.isT sit_entry (?_) (sit_args _))))
  unfold Builtin.«set_iterator.__next__» slotArgs
  simp only [List.isEmpty_nil,Bool.not_true,Bool.false_eq_true,↓reduceIte,bind_assoc,List.length_nil,bne_self_eq_false]
  refine wpAny_bind (wpAny_pure ?_)
  try dsimp only
  refine wpAny_bind (wpAny_fieldsOf g1 g3 ?_)
  simp only [rawInt]
  refine wpAny_bind (wpAny_setEntries_of x.at_ x.dat x.fit ?_)
  simp only [bne_self_eq_false,Bool.false_eq_true,↓reduceIte]
  simp only [Int.toNat_natCast]
  refine wpAny_bind (set_next x hr ?_)
  dsimp only
  refine wpAny_bind (wpAny_setField g1 g3 (by simp) (?_))
  simp only [newExc,newTuple]
  refine wpAny_bind (wpAny_bind (wpAny_newObj_type (?_) (by size_fits)))
  refine wpAny_bind (m:=firstArgMember _ _) (wpAny_of_eq (a:=Value.none) (by first | rfl | (simp only [firstArgMember];rfl)) (?_))
  refine wpAny_newObj_type (?_) (by size_fits)
  simp only [raiseNew]
  refine wpAny_bind (wpAny_handled ?_)
  rw [show A.in1.handled = none from nh]
  refine wpAny_bind (wpAny_pure (wpAny_throw (?_)))
  refine wpAny_bind (wpAny_isInstance (T:="StopIteration") (b:=true) (⟨_,Heap.get?_push_size _ rfl,rfl⟩) isSubtype_stop ?_)
  exact wpAny_pure (q _ (((Heap.SameBut.update ..).extBut.push _).push _))
theorem iter_self {fs:Array Value} {Q:Value→Shared→Prop} (hit:SIter s.heap it fs) (h:Q (.ref it) s):wpAny (model P w) A (pyIter (.ref it)) Q E s:=by
  refine wpAny_pyIter_slot hit.isT sit_iter (wpAny_call_entry sit_iter hit.isT sit_ientry (?_) (sit_iargs _))
  show wpAny _ _ (ret (Value.ref it)) _ _ s
  exact wpAny_pure ⟨_,rfl,"set_iterator",_,hit.isT,sit_next.lookup,h⟩
theorem below_one (p sl:Nat):SetTable.below #[p] sl = if p < sl then 1 else 0:=by
  unfold SetTable.below
  show SetTable.below.go #[p] sl 1 0 1 = _
  unfold SetTable.below.go
  simp only [show (0:Nat) < 1 by decide,if_true]
  show (if (#[p]:Array Nat).getD 0 sl < sl then SetTable.below.go #[p] sl 0 1 1 else SetTable.below.go #[p] sl 0 0 0) = _
  rfl
theorem told_walk (x:SObj w s.heap S o es ep t) (hd:(!w.params.followText "set-order" && (!t.plain && decide (es.size > 1))) = false) :
    ∃ (fs:List (Int×Value)) (sl:Nat→Nat),fs.Perm es.toList∧sl 0 = 0∧∀ i,NextIs w S es ep t (sl i) i ((fs[i]?).map fun e=>(e.2,sl (i + 1)))∨es.size < i:=by
  cases hb:w.params.followText "set-order" with
  | true =>
    refine ⟨(pickOrder (w.params.setOrder S ep) es).toList,fun _=>0,pick_perm _ _,rfl,fun i=>.inl (.inl ⟨hb,?_⟩)⟩
    rw [Array.getElem?_toList]
  | false =>
    have hsm:es.size≤1:=by
      rw [hb] at hd
      rcases x.pl with h | h
      · omega
      · rw [h] at hd;simp at hd;omega
    have hpl:t.place.size = es.size:=by
      have:=x.fit
      simp only [SetTable.fits,Bool.and_eq_true,beq_iff_eq] at this
      exact this.1
    by_cases h0:es.size = 0
    · have e1:es = #[]:=by simpa using h0
      refine ⟨[],fun _=>0,by rw [e1],rfl,fun i=>.inl (.inr ⟨hb,hsm,?_⟩)⟩
      subst e1
      simp
    · have h1:es.size = 1:=by omega
      obtain ⟨e,rfl⟩:∃ e,es = #[e]:=by
        obtain ⟨l⟩:=es
        match l,h1 with
        | [e],_=>exact ⟨e,rfl⟩
      obtain ⟨p,hp⟩:∃ p,t.place = #[p]:=by
        have:t.place.size = 1:=by rw [hpl];rfl
        generalize t.place = pl at this
        obtain ⟨l⟩:=pl
        match l,this with
        | [p],_=>exact ⟨p,rfl⟩
      refine ⟨[e],fun i=>if i = 0 then 0 else p + 1,List.Perm.refl _,rfl,fun i=>?_⟩
      match i with
      | 0 =>
        refine .inl (.inr ⟨hb,hsm,?_⟩)
        rw [hp,below_one]
        simp
      | 1 =>
        refine .inl (.inr ⟨hb,hsm,?_⟩)
        rw [hp,below_one]
        simp
      | n + 2=>exact .inr (by simp)
end
end L2
namespace L2
open PySem PySem.Spec PyProof.Rows PySem.SeqAt
theorem SObj.move {w:World} {h h':Heap} {S:Addr} {o:Obj} {es:Array (Int×Value)} {ep:Nat} {t:SetTable} (x:SObj w h S o es ep t) (e:∀ u,h.get? S = some u→h'.get? S = some u):SObj w h' S o es ep t:=⟨e _ x.at_,x.ex,x.dat,x.fit,x.led,x.pl,x.small⟩
theorem SIter.move {h h':Heap} {it:Addr} {fs:Array Value} (x:SIter h it fs) (e:∀ u,h.get? it = some u→h'.get? it = some u):SIter h' it fs:=by
  obtain ⟨o,a,b⟩:=x
  exact ⟨o,e _ a,b⟩
section
variable {P:Program} {w:World} {A:Around} {E:Value→Shared→Prop} {s:Shared} {S it T:Addr} {o:Obj} {es:Array (Int×Value)} {ep:Nat} {t:SetTable}
theorem walks_told (hh:A.handled = none) (ne:S≠it) {fs:List (Int×Value)} {sl:Nat→Nat} (hl:fs.length = es.size) (hn:∀ i,NextIs w S es ep t (sl i) i ((fs[i]?).map fun e=>(e.2,sl (i + 1)))∨es.size < i) :
    Walks P w A it [it,S] [it] fs.length (fun i v=>∃ e,fs[i]? = some e∧v = e.2) (fun i h=>SObj w h S o es ep t∧SIter h it #[rawInt (sl i),rawInt i,.ref S,rawInt es.size,rawInt ep]) where
  sub:=fun b hb=>by simp at hb;simp [hb]
  frame:=fun i h h' st k=>⟨st.1.move fun u e=>k S (by simp) u e,st.2.move fun u e=>k it (by simp) u e⟩
  item:=fun i s Q E hi st q=>by
    have e:=List.getElem?_eq_getElem hi
    have hx:=(hn i).resolve_right (by omega)
    rw [e] at hx
    refine next_told st.1 st.2 hx fun h' hit sb=>?_
    have:=q fs[i].2 h' s.toks ⟨_,e,rfl⟩ ⟨st.1.move fun u c=>(sb.2 S ne).trans c,hit⟩ fun b u hb c=>(sb.2 b (by simpa using hb)).trans c
    exact this
  done:=fun s Q E st q=>by
    have hx:=(hn fs.length).resolve_right (by omega)
    rw [List.getElem?_eq_none (Nat.le_refl _)] at hx
    exact end_told hh st.1 st.2 hx fun h' eb=>q h' s.toks fun b u hb c=>eb b u (by simpa using hb) c
  self:=fun i s Q E st h=>iter_self st.2 h
theorem walks_drawn (hh:A.handled = none) (ne:S≠it) (neT:T≠it) {ys:List Nat} (hp:ys.Perm (List.range es.size)) :
    Walks P w A it [it,S,T] [it] es.size (fun i v=>∃ j e,ys[i]? = some j∧es[j]? = some e∧v = e.2) (fun i h=>SObj w h S o es ep t∧h.IsTuple T (ys.map fun (i:Nat)=>rawInt i).toArray∧SIter h it #[.ref T,rawInt i,.ref S,rawInt es.size,rawInt ep]) where
  sub:=fun b hb=>by simp at hb;simp [hb]
  frame:=fun i h h' st k=>⟨st.1.move fun u e=>k S (by simp) u e,let ⟨a,b,c⟩:=st.2.1;⟨a,k T (by simp) _ b,c⟩,st.2.2.move fun u e=>k it (by simp) u e⟩
  item:=fun i s Q E hi st q=>by
    refine next_drawn st.1 hp st.2.1 st.2.2 hi fun h' j e hj he hit sb=>?_
    have:=q e.2 h' s.toks ⟨j,e,hj,he,rfl⟩ ⟨st.1.move fun u c=>(sb.2 S ne).trans c,(let ⟨a,b,c⟩:=st.2.1;⟨a,(sb.2 T neT).trans b,c⟩),hit⟩ fun b u hb c=>(sb.2 b (by simpa using hb)).trans c
    exact this
  done:=fun s Q E st q=>end_drawn hh st.1 hp st.2.1 st.2.2 fun h' eb=>q h' s.toks fun b u hb c=>eb b u (by simpa using hb) c
  self:=fun i s Q E st h=>iter_self st.2.2 h
theorem hint_set {Q:Bool→Shared→Prop} (hT:s.TypeIs (.ref S) "set") (h:Q false s):wpAny (model P w) A (Builtin.List.listLengthHint (.ref S)) Q E s:=by
  unfold Builtin.List.listLengthHint
  refine wpAny_bind (wpAny_specialOf hT PySem.F.slot_set_len.lookup (?_))
  generalize hid:("set.__len__":String) = id0
  wp_delta
  rw [show splitId id0 = some ("set","__len__") from by subst hid;decide +kernel]
  subst hid
  refine wpAny_bind (wpAny_isInstance (T:="set") (b:=true) hT (by rw [isSubtype_type];kernel_rfl) (?_))
  refine wpAny_ite_split (fun hc=>absurd hc (by decide)) (fun _=>wpAny_ite_split (fun _=>?_) (fun hc=>absurd (by decide +kernel) hc))
  refine wpAny_bind (wpAny_typeOf hT (wpAny_pure h))
theorem ext_set {R:Result→Shared→Prop} (hh:A.handled = none) (x:SObj w s.heap S o es ep t) (L:Addr) (hLS:L≠S) (res:Value) (c0:Nat) (hL:s.heap.get? L = some { cls:=.type "list",data:=.seq #[] c0 })
    (hR:∀ h' tk d acc c',(∀ b u,b≠L→s.heap.get? b = some u→h'.get? b = some u)→h'.get? L = some { cls:=.type "list",dict:=none,data:=.seq acc c',slots:=#[] }→acc.toList.Perm (es.toList.map (·.2))→R (.ok (.ret res)) { s with heap:=h',toks:=tk,drawn:=d }) :
    wpAny (model P w) A.in1 (Builtin.List.listExtendWith (.ref L) (.ref S) res) (fun fin s'=>match fin with | .done f=>R (.ok f) s' | .again c'=>c'.quiet = true∧codeAny (model P w) A c' R s') (fun e s'=>R (.error e) s') s:=by
  have hLS':S < s.heap.objs.size:=Heap.lt_size x.at_
  have hLl:L < s.heap.objs.size:=Heap.lt_size hL
  have hT:s.TypeIs (.ref S) "set":=⟨o,x.at_,x.ex.1⟩
  have hnb:es.size≤sizeLine:=fits_of_scanBound x.small
  unfold Builtin.List.listExtendWith
  refine wpAny_bind (wpAny_typeOf (T:="set") hT ?_)
  have h1:Builtin.List.listSameRef (.ref L) (.ref S) = false:=by simp [Builtin.List.listSameRef,hLS]
  simp only [h1,show (Value.type "set" == Value.type "list") = false by decide,show (Value.type "set" == Value.type "tuple") = false by decide,Bool.or_false,Bool.false_eq_true,if_false]
  refine wpAny_bind (iter_set x (fun hd h' hk hit=>?_) (fun hd h' T it d ys hp hk hle hleT hTi hTu hit=>?_))
  · obtain ⟨fs,sl,hfp,hs0,hn⟩:=told_walk x hd
    have hfl:fs.length = es.size:=by rw [hfp.length_eq,Array.length_toList]
    have hS1:h'.get? S = some o:=hk _ _ x.at_
    have hL1:h'.get? L = some { cls:=.type "list",data:=.seq #[] c0 }:=hk _ _ hL
    have W:=walks_told (P:=P) (w:=w) (A:=A.in1) (o:=o) (t:=t) (ep:=ep) hh (Nat.ne_of_lt hLS') hfl hn
    have hLf:L∉[s.heap.objs.size,S]:=by simp only [List.mem_cons,List.not_mem_nil,or_false,not_or];exact ⟨Nat.ne_of_lt hLl,hLS⟩
    have key:∀ (h:Heap) (c1 tk:Nat),SObj w h S o es ep t∧SIter h s.heap.objs.size #[rawInt (sl 0),rawInt (0:Nat),.ref S,rawInt es.size,rawInt ep]→(∀ b u,b≠L→h'.get? b = some u→h.get? b = some u)→h.get? L = some { cls:=.type "list",data:=.seq #[] c1 }→codeAny (model P w) A (.builtin "list.extend.loop" ⟨[.ref L,.ref s.heap.objs.size,res],[]⟩) R { s with heap:=h,toks:=tk,drawn:=s.drawn }:=by
      intro h c1 tk hst hkk hL2
      refine codeAny_extend_loopS W.toS (by omega) L hLf res fs.length 0 _ #[] c1 rfl (Nat.zero_le _) hst hL2 (ItemsOf.nil _) fun s' acc c' hm hL3 hacc=>?_
      rw [Moved.eq_with hm]
      refine hR s'.heap s'.toks _ acc c' (fun b u hb e=>hm.heap b u (fun hmem=>?_) (hkk b u hb (hk b u e))) hL3 ?_
      · rcases List.mem_cons.mp hmem with e' | hmem
        · exact hb e'
        · rw [List.mem_singleton.mp hmem] at e
          exact absurd (Heap.lt_size e) (Nat.lt_irrefl _)
      · have:acc.toList = fs.map (·.2):=by
          refine List.ext_getElem? fun i=>?_
          by_cases hi:i < acc.size
          · have e1:acc.toList[i]? = some acc[i]:=by rw [Array.getElem?_toList,Array.getElem?_eq_getElem hi]
            obtain ⟨e,he,hv⟩:=hacc.2 i acc[i] (Array.getElem?_eq_getElem hi)
            rw [e1,List.getElem?_map,he,hv];rfl
          · rw [List.getElem?_eq_none (by rw [Array.length_toList];omega),List.getElem?_eq_none (by rw [List.length_map];have:=hacc.1;omega)]
        rw [this]
        exact hfp.map _
    have hT1:Shared.TypeIs { s with heap:=h',drawn:=s.drawn } (.ref S) "set":=⟨o,hS1,x.ex.1⟩
    refine wpAny_bind (wpAny_holding (hint_set (s:={ s with heap:=h',drawn:=s.drawn }) hT1 ?_))
    have st0:SObj w h' S o es ep t∧SIter h' s.heap.objs.size #[rawInt (sl 0),rawInt (0:Nat),.ref S,rawInt es.size,rawInt ep]:=⟨x.move fun u e=>hk _ _ e,by rw [hs0];exact hit⟩
    refine wpAny_ite_split (fun _=>?_) (fun _=>wpAny_pure ⟨plainId_quiet PySem.F.plain_extend_loop _,key h' c0 _ st0 (fun b u _ e=>e) hL1⟩)
    refine wpAny_bind (wpAny_rule (wpAny_bind ?_))
    show wpAny _ _ (updateSeq L (·.push Value.none) >>= fun _=>updateSeq L (·.pop)) _ _ _
    refine wpAny_bind (wpAny_updateSeq (s:={ s with heap:=h',drawn:=s.drawn }) hL1 rfl ?_)
    have hL2:=Heap.get?_update_self (Obj.mapSeq (·.push Value.none)) hL1 rfl
    refine wpAny_updateSeq (hz:=by seq_fits) hL2 rfl ?_
    have hL3:=Heap.get?_update_self (Obj.mapSeq (·.pop)) hL2 rfl
    refine wpAny_pure ⟨plainId_quiet PySem.F.plain_extend_loop _,key _ _ _ (W.frame 0 _ _ st0 fun b hb u e=>?_) (fun b u hb e=>?_) hL3⟩
    · have hbL:b≠L:=fun z=>hLf (z ▸ hb)
      exact (Heap.get?_update_other _ _ (Ne.symm hbL)).trans ((Heap.get?_update_other _ _ (Ne.symm hbL)).trans e)
    · exact (Heap.get?_update_other _ _ (Ne.symm hb)).trans ((Heap.get?_update_other _ _ (Ne.symm hb)).trans e)
  · have hS1:h'.get? S = some o:=hk _ _ x.at_
    have hL1:h'.get? L = some { cls:=.type "list",data:=.seq #[] c0 }:=hk _ _ hL
    have W:=walks_drawn (P:=P) (w:=w) (A:=A.in1) (o:=o) (t:=t) (ep:=ep) hh (Nat.ne_of_lt (Nat.lt_of_lt_of_le hLS' hle)) hTi hp
    have hLf:L∉[it,S,T]:=by simp only [List.mem_cons,List.not_mem_nil,or_false,not_or];exact ⟨Nat.ne_of_lt (Nat.lt_of_lt_of_le hLl hle),hLS,Nat.ne_of_lt (Nat.lt_of_lt_of_le hLl hleT)⟩
    have key:∀ (h:Heap) (c1 tk:Nat),SObj w h S o es ep t∧h.IsTuple T (ys.map fun (i:Nat)=>rawInt i).toArray∧SIter h it #[.ref T,rawInt (0:Nat),.ref S,rawInt es.size,rawInt ep]→(∀ b u,b≠L→h'.get? b = some u→h.get? b = some u)→h.get? L = some { cls:=.type "list",data:=.seq #[] c1 }→codeAny (model P w) A (.builtin "list.extend.loop" ⟨[.ref L,.ref it,res],[]⟩) R { s with heap:=h,toks:=tk,drawn:=d }:=by
      intro h c1 tk hst hkk hL2
      refine codeAny_extend_loopS W.toS hnb L hLf res es.size 0 _ #[] c1 rfl (Nat.zero_le _) hst hL2 (ItemsOf.nil _) fun s' acc c' hm hL3 hacc=>?_
      rw [Moved.eq_with hm]
      refine hR s'.heap s'.toks _ acc c' (fun b u hb e=>hm.heap b u (fun hmem=>?_) (hkk b u hb (hk b u e))) hL3 ?_
      · rcases List.mem_cons.mp hmem with e' | hmem
        · exact hb e'
        · rw [List.mem_singleton.mp hmem] at e
          exact absurd (Heap.lt_size e) (Nat.not_lt.mpr hle)
      · have hyl:ys.length = es.size:=by rw [hp.length_eq,List.length_range]
        have:acc.toList = ys.map fun j=>((es[j]?).map (·.2)).getD .none:=by
          refine List.ext_getElem? fun i=>?_
          by_cases hi:i < acc.size
          · have e1:acc.toList[i]? = some acc[i]:=by rw [Array.getElem?_toList,Array.getElem?_eq_getElem hi]
            obtain ⟨j,e,hj,he,hv⟩:=hacc.2 i acc[i] (Array.getElem?_eq_getElem hi)
            rw [e1,List.getElem?_map,hj,hv]
            show _ = some (((es[j]?).map (·.2)).getD .none)
            rw [he];rfl
          · rw [List.getElem?_eq_none (by rw [Array.length_toList];omega),List.getElem?_eq_none (by rw [List.length_map];have:=hacc.1;omega)]
        rw [this]
        have e2:es.toList.map (·.2) = (List.range es.size).map fun j=>((es[j]?).map (·.2)).getD .none:=by
          refine List.ext_getElem? fun i=>?_
          rw [List.getElem?_map,List.getElem?_map,Array.getElem?_toList]
          by_cases hi:i < es.size
          · rw [List.getElem?_range hi,Array.getElem?_eq_getElem hi]
            show _ = some (((es[i]?).map (·.2)).getD .none)
            rw [Array.getElem?_eq_getElem hi];rfl
          · rw [List.getElem?_eq_none (by simpa using hi),Array.getElem?_eq_none (by omega)];rfl
        rw [e2]
        exact hp.map _
    have hT1:Shared.TypeIs { s with heap:=h',drawn:=d } (.ref S) "set":=⟨o,hS1,x.ex.1⟩
    refine wpAny_bind (wpAny_holding (hint_set (s:={ s with heap:=h',drawn:=d }) hT1 ?_))
    have st0:SObj w h' S o es ep t∧h'.IsTuple T (ys.map fun (i:Nat)=>rawInt i).toArray∧SIter h' it #[.ref T,rawInt (0:Nat),.ref S,rawInt es.size,rawInt ep]:=⟨x.move fun u e=>hk _ _ e,hTu,hit⟩
    refine wpAny_ite_split (fun _=>?_) (fun _=>wpAny_pure ⟨plainId_quiet PySem.F.plain_extend_loop _,key h' c0 _ st0 (fun b u _ e=>e) hL1⟩)
    refine wpAny_bind (wpAny_rule (wpAny_bind ?_))
    show wpAny _ _ (updateSeq L (·.push Value.none) >>= fun _=>updateSeq L (·.pop)) _ _ _
    refine wpAny_bind (wpAny_updateSeq (s:={ s with heap:=h',drawn:=d }) hL1 rfl ?_)
    have hL2:=Heap.get?_update_self (Obj.mapSeq (·.push Value.none)) hL1 rfl
    refine wpAny_updateSeq (hz:=by seq_fits) hL2 rfl ?_
    have hL3:=Heap.get?_update_self (Obj.mapSeq (·.pop)) hL2 rfl
    refine wpAny_pure ⟨plainId_quiet PySem.F.plain_extend_loop _,key _ _ _ (W.frame 0 _ _ st0 fun b hb u e=>?_) (fun b u hb e=>?_) hL3⟩
    · have hbL:b≠L:=fun z=>hLf (z ▸ hb)
      exact (Heap.get?_update_other _ _ (Ne.symm hbL)).trans ((Heap.get?_update_other _ _ (Ne.symm hbL)).trans e)
    · exact (Heap.get?_update_other _ _ (Ne.symm hb)).trans ((Heap.get?_update_other _ _ (Ne.symm hb)).trans e)
end
end L2
namespace L2
open PySem PySem.Spec PyProof.Rows PySem.SeqAt
theorem strs_nm {w:World}:∀ {vs:List Value},(∀ v∈vs,∃ x t,v = Value.str x t)→StrsAre vs (vs.map nmV)
  | [],_=>.nil
  | v :: vs,h=>by
    obtain ⟨x,t,rfl⟩:=h v (by simp)
    exact .cons x t (strs_nm (w:=w) fun u hu=>h u (List.mem_cons_of_mem _ hu))
theorem Inv.drew {X:Cx} {pins:List (Addr×Obj)} {σ:St} {H:Hp} {s:Shared} (I:Inv X pins σ H s) (d:Drawn):Inv X pins σ H { s with drawn:=d }:=⟨I.ok,I.os,I.bare,I.base,I.loc,I.cell,I.free,I.freeC,I.pin,I.hok,I.len⟩
theorem collect_set {P:Program} {w:World} {A:Around} {E:Value→Shared→Prop} {s:Shared} {S:Addr} {ms:List Str} {Q:List Value→Shared→Prop} (hh:A.handled = none) (x:SetP P w s.heap S ms)
    (h:∀ (h':Heap) (tk:Nat) (d:Drawn) (vs:List Value) (ss:List Str),(∀ b o,s.heap.get? b = some o→h'.get? b = some o)→StrsAre vs ss→ss.Perm ms→Q vs { s with heap:=h',toks:=tk,drawn:=d }):wpAny (model P w) A (collect (.ref S)) Q E s:=by
  obtain ⟨o,es,ep,t,ho,hex,hd,he,hms,nd,hb,hf,hl,hp⟩:=x
  have hp':es.size = 0∨t.plain = false:=hp.imp_left fun e=>by
    have:=congrArg List.length hms
    rw [e] at this
    simpa using this
  unfold collect
  refine wpAny_bind (wpAny_runValue (codeAny_builtin F.entry_proto_collect (?_)))
  rw [Around.under_plainId F.plain_proto_collect _]
  show wpAny _ A.in1 (newList [] >>= fun l=>again (.builtin "list.__iadd__" ⟨[l,.ref S],[]⟩)) _ _ s
  refine wpAny_bind (wpAny_newObj_type (wpAny_pure ⟨plainId_quiet F.plain_list_iadd _,codeAny_builtin F.entry_list_iadd (?_)⟩))
  rw [Around.under_plainId F.plain_list_iadd _]
  show wpAny _ A.in1 (Builtin.List.listExtendWith (.ref s.heap.objs.size) (.ref S) (.ref s.heap.objs.size)) _ _ _
  have hS:(s.heap.push { cls:=.type "list",data:=.seq ([]:List Value).toArray }).get? s.heap.objs.size = some { cls:=.type "list",data:=.seq #[] }:=Heap.get?_push_size _ rfl
  have hlt:=Heap.lt_size ho
  refine ext_set (R:=fun r s'=>match r with
      | .ok (.ret v)=>wpAny (model P w) A (match v with
        | .ref a=>(load a >>= fun o=>match o.data with
          | .seq xs _=>pure xs.toList
          | _=>unsupported "internal:collect")
        | _=>unsupported "internal:collect") Q E s'
      | .ok _=>False
      | .error e=>E e s') (A:=A) (s:={ s with heap:=s.heap.push { cls:=.type "list",data:=.seq ([]:List Value).toArray } }) hh ⟨Heap.get?_push_of_some _ ho,hex,hd,hf,hl,hp',hb⟩ _ (Nat.ne_of_gt hlt) _ _ hS (fun h' tk d acc c hk hS' hacc=>?_)
  refine wpAny_bind (wpAny_load hS' (wpAny_pure ?_))
  have hvs:∀ v∈acc.toList,∃ x t,v = Value.str x t:=fun v hv=>by
    obtain ⟨e,hm,q⟩:=List.mem_map.mp (hacc.mem_iff.mp hv)
    obtain ⟨x,t,rfl⟩:=he e hm
    exact ⟨x,t,q.symm⟩
  refine h h' tk d acc.toList _ (fun b u e=>hk b u (Nat.ne_of_lt (Heap.lt_size e)) (Heap.get?_push_of_some _ e)) (strs_nm (w:=w) hvs) ?_
  have:=hacc.map nmV
  rw [List.map_map] at this
  rw [← hms]
  exact this
section
variable {X:Cx}
theorem sorted_byP {pins:List (Addr×Obj)} {σ:St} {H:Hp} {s:Shared} {v:Value} {ms:List Str} {Q:VK} (I:Inv X pins σ H s) (h64:ms.length < 64)
    (hc:∀ (R:List Value→Shared→Prop),(∀ (h':Heap) (tk:Nat) (d:Drawn) (vs:List Value) (ss:List Str),(∀ b o,s.heap.get? b = some o→h'.get? b = some o)→StrsAre vs ss→ss.Perm ms→R vs { s with heap:=h',toks:=tk,drawn:=d })→wpAny (model X.prog X.w) X.A.in1 (collect v) R X.xe s)
    (q:∀ p,H p = none→Q (.ref p) (upd H p (.lst ((sortS ms).map V.str)))):wpAny (model X.prog X.w) X.A (call (.builtin "sorted") [v]) (EP X pins σ Q) X.xe s:=by
  refine Calls.call_function_entry kind_sorted plain_sorted entry_sorted (args_sorted1 _) (?_)
  unfold Builtin.«sorted»
  refine wpAny_bind (m:=checkCount "sorted" 1 1 _) (wpAny_pure ?_)
  refine wpAny_bind (hc _ fun h1 tk d vs ss hk hS hpm=>?_)
  have hlen:vs.length = ss.length:=by
    have:=congrArg List.length hS.strs
    simpa using this
  have hl2:=hpm.length_eq
  refine wpAny_bind (wpAny_newList ?_)
  have hoL:(h1.push (seqObj "list" vs.toArray 0)).get? h1.objs.size = some (seqObj "list" vs.toArray 0):=Heap.get?_push_size _ rfl
  refine wpAny_bind (wpAny_holding (wpAny_call_entry slot_list_sort ⟨_,hoL,rfl⟩ entry_list_sort (list_sort_treeK strKind_oneLt hoL hS.keysOf (fun v₁ v₂ rest e=>keyKind_strs (by rw [← e];exact hS)) (by omega) fun st' a1 a2=>⟨_,rfl,?_⟩) (args_list_sort _)))
  obtain ⟨ss',b1,b2,b3⟩:=sorted_out_str hS a1 a2
  have e:=sortS_eq (b2.trans hpm) (sortedS_pw b3)
  subst e
  have I1:Inv X pins σ H { s with heap:=h1,toks:=tk,drawn:=d }:=(I.drew d).kept (t':=tk) hk
  have hn:H h1.objs.size = none:=I1.hok.fresh (Nat.le_refl _)
  obtain ⟨ep,eo⟩:=sortedHeap_at (out:=(arrOf st').map (·.2)) hoL
  refine wpAny_pure ⟨_,rfl,.ref h1.objs.size,_,?_,rfl,q _ hn⟩
  refine I1.laid (t':=tk) (fun b o e=>?_) (Nat.le_refl _) ⟨by rw [List.length_map,sortS_len];exact lenS h64,((arrOf st').map (·.2)).toList,ep,of_strsAre b1,?_⟩
  · have hb:=Heap.lt_size e
    rw [sortedHeap_old (Nat.ne_of_lt hb) (Nat.lt_of_lt_of_le hb (by rw [Heap.size_push];exact Nat.le_succ _))]
    exact Heap.get?_push_of_some _ e
  · rw [eo]
def tSortSet (K:PySem.W.Frag) (ta:TA):TE:=fun σ H Q=>ta σ H fun vs H1=>∃ (l:Addr) (ss ms:List Str),vs = [.ref l]∧SqL K H1 l (ss.map V.str)∧ss.length≤60∧ms.Nodup∧(∀ y,y∈ms ↔ y∈ss)∧∀ p,H1 p = none→Q (.ref p) (upd H1 p (.lst ((sortS ms).map V.str)))
theorem pe_sortset {K:PySem.W.Frag} (hK:X.K = K) {a:Expr} {ta:TA} {p1 p2 pos pos2:Pos} (hc:X.calm = true) (hg1:Gl X "sorted") (hm1:X.mg "sorted" = none) (hg2:Gl X "set") (hm2:X.mg "set" = none) (ha:PA X [a] ta)
    (hs:starEach [a] X.env = [(false,eval a X.env)]:=by rfl) (hs2:starEach [Expr.Call (.Name "set" p2) [a] [] pos2] X.env = [(false,eval (.Call (.Name "set" p2) [a] [] pos2) X.env)]:=by rfl) :
    PE X (.Call (.Name "sorted" p1) [.Call (.Name "set" p2) [a] [] pos2] [] pos) (tSortSet K ta):=by
  subst hK
  intro pins s σ H Q I h
  refine wpAny_Call_Name_kw (ld_blt I hg1 hm1 boot_sorted (?_))
  refine PyProof.Rows.callWith_builtin1 (?_) hs2 rfl
  rw [hs2]
  show wpAny _ _ (spliced ((false,eval (.Call (.Name "set" p2) [a] [] pos2) X.env) :: backTo pos (starEach [] X.env))) _ _ s
  refine Calls.spliced_cons ?_
  refine Call_ (ld_blt I hg2 hm2 boot_ty_set (PyProof.Rows.callWith_type1 (thn (ha pos2 pins s σ H _ I h) fun us s1 ⟨vs,H1,I1,r1,q1⟩=>?_) hs rfl))
  obtain ⟨l,ss,ms,e,hq,hlen,nd,hmm,q⟩:=q1
  subst e
  obtain ⟨u,rfl,ru⟩:=vals1 r1
  cases ru
  obtain ⟨its,rv,pl,hz⟩:=I1.list hq
  have hl:=rv.length
  rw [List.length_map] at hl
  refine call_setP (I1.ok.hd hc) pl.isList (strsAre_of rv) (by rw [List.size_toArray,← hl];unfold scanBound;omega) fun h' tk ms2 hS hl2 hm2' hk=>Calls.spliced_nil ?_
  have nd2:ms2.Nodup:=by obtain ⟨_,_,_,_,_,_,_,_,_,nd,_⟩:=hS;exact nd
  have hpm:ms2.Perm ms:=(List.perm_ext_iff_of_nodup nd2 nd).mpr fun y=>by rw [hm2' y,hmm y]
  have I2:Inv X pins σ H1 { s1 with heap:=h',toks:=tk }:=I1.kept (t':=tk) hk
  refine sorted_byP I2 (by omega) (fun R hR=>collect_set (I1.ok.hd hc) hS hR) fun p hp=>?_
  have e:sortS ms = sortS ms2:=sortS_eq ((sortS_perm ms).trans hpm.symm) (sortS_pw ms)
  rw [← e]
  exact q p hp
end
end L2
namespace L2
open PySem PySem.Spec PyProof.Rows PySem.SeqAt
def tListVals (td:TE):TE:=fun σ H Q=>td σ H fun x H1=>∃ a kvs,x = .ref a∧Rd H1 a (.dK kvs)∧∀ p,H1 p = none→Q (.ref p) (upd H1 p (.lst (kvs.map (·.2))))
section
variable {X:Cx}
end
end L2
namespace L2
open PySem PySem.Spec PyProof.Rows
def iDictT (tl:TE):TI:=fun σ H R=>tl σ H fun x H1=>∃ a kvs,x = .ref a∧Rd H1 a (.dT kvs)∧∀ o H2,FznT a o kvs H1 H2→R (ItdT a o kvs) H2
section
variable {X:Cx} {tg:Expr}
theorem pi_dictT {l:Expr} {tl:TE} (hl:PE X l tl):PI X tg l (iDictT tl):=by
  intro pins s σ H R I h
  refine thn (hl pins s σ H _ I h) fun v s1 ⟨x,H1,I1,r1,q1⟩=>?_
  obtain ⟨a,kvs,e,hq,q⟩:=q1
  subst e
  cases r1
  exact keys_madeT I1 hq fun o H2 fz _=>q o H2 fz
theorem op_catS:OpR X (binaryOp .Add) (fun x y H Q=>∃ l b xs zs,x = .ref l∧y = .ref b∧SqL X.K H l xs∧SqL X.K H b zs∧xs.length + zs.length≤sizeLine∧∀ p,H p = none→Q (.ref p) (upd H p (.lst (xs ++ zs)))):=by
  intro pins s σ H x y v u Q I rx ry h
  obtain ⟨l,b,xs,zs,rfl,rfl,hH,hB,hz,q⟩:=h
  cases rx
  cases ry
  obtain ⟨its,r,p1,_⟩:=I.list hH
  obtain ⟨its2,r2,p2,_⟩:=I.list hB
  have e1:=r.length
  have e2:=r2.length
  obtain ⟨⟨cls,dd,data,sl⟩,n,ho,hc,_,hd⟩:=p1
  obtain ⟨⟨cls2,dd2,data2,sl2⟩,n2,ho2,hc2,_,hd2⟩:=p2
  simp only at hc hd hc2 hd2
  subst hc hd hc2 hd2
  have ea:its.toArray ++ its2.toArray = (its ++ its2).toArray:=by simp
  refine concat_meets ⟨_,ho,rfl⟩ ⟨_,ho2,rfl⟩ noFill_list_add seq_list_add PySem.F.slot_list_add PySem.F.entry_list_add (PySem.F.args_list_add_2 _ _) (list_addW l b its.toArray its2.toArray n n2 dd dd2 sl sl2 (by rw [List.size_toArray,List.size_toArray];omega)) ⟨ho,ho2,?_⟩
  rw [ea]
  exact ⟨.ref _,_,I.lnew (t':=s.toks) (r.append r2) (by rw [List.length_append];omega),rfl,q _ I.fresh⟩
end
end L2
namespace L2
open PySem PySem.Spec PyProof.Rows
theorem all1 {P:List Value→Prop} (h:∀ a,P [a]):∀ us:List Value,us.length = 1→P us
  | [_],_=>h _
theorem all2 {P:List Value→Prop} (h:∀ a b,P [a,b]):∀ us:List Value,us.length = 2→P us
  | [_,_],_=>h _ _
theorem all3 {P:List Value→Prop} (h:∀ a b c,P [a,b,c]):∀ us:List Value,us.length = 3→P us
  | [_,_,_],_=>h _ _ _
theorem all4 {P:List Value→Prop} (h:∀ a b c d,P [a,b,c,d]):∀ us:List Value,us.length = 4→P us
  | [_,_,_,_],_=>h _ _ _ _
theorem all5 {P:List Value→Prop} (h:∀ a b c d e,P [a,b,c,d,e]):∀ us:List Value,us.length = 5→P us
  | [_,_,_,_,_],_=>h _ _ _ _ _
theorem ltX {X:Cx} {b:List Stmt} {D:Ends} {σ:L2.St} {H:Hp} (h:let X':=X;let D':=D;∃ t,PSs X' b t∧t D' σ H):∃ t,PSs X b t∧t D σ H:=h
theorem pss_consL {X:Cx} {st:Stmt} {rest:List Stmt} {t u:TS} (h1:PS X st t) (h2:PSs X rest u):PSs X (st :: rest) (let u':=u;tSeq t u'):=pss_cons h1 h2
theorem ps_ifL {X:Cx} {pos:Pos} {c:Expr} {a b:List Stmt} {tc:TT} {t u:TS} (hc:PT X c tc) (ha:PSs X a t) (hb:PSs X b u):PS X (.If c a b pos) (let t':=t;let u':=u;tIfS tc t' u'):=ps_if hc ha hb
theorem ps_whileL {X:Cx} {pos:Pos} {c:Expr} {body:List Stmt} {tc:TT} {tb:TS} (hp:PassesOwn (model X.prog X.w) X.A X.env X.xe) (hc:PT X c tc) (hb:PSs X body tb):PS X (.While c body [] pos) (let t':=tb;tWhile tc t'):=ps_while hp hc hb
theorem ps_forL {X:Cx} {tg:Expr} {iter:Expr} {body:List Stmt} {wi:TI} {g:TG} {tb:TS} {pos:Pos} (hp:PassesOwn (model X.prog X.w) X.A X.env X.xe) (hc:X.calm = true) (hi:PI X tg iter wi) (hg:PG X tg g) (hb:PSs X body tb)
    (hs:∀ x,foldedSetIterable iter X.env x = pure x:=by intro _;rfl):PS X (.For tg iter body [] pos) (let t':=tb;tFor wi g t'):=ps_for hp hc hi hg hb hs
end L2
namespace L2
open PySem PySem.Spec PyProof.Rows
def adj (f:Str→Row) (x y:Str):Prop:=(look (f x) y).isSome = true
inductive Conn (f:Str→Row):Str→Str→Prop
  | refl (x:Str):Conn f x x
  | step {x y z:Str}:adj f x y→Conn f y z→Conn f x z
namespace Conn
variable {f:Str→Row}
end Conn
structure Und (ks:List Str) (f:Str→Row):Prop where
  inn:∀ x∈ks,∀ y,adj f x y→y∈ks
  sym:∀ x∈ks,∀ y,adj f x y→adj f y x
namespace Und
variable {ks:List Str} {f:Str→Row}
end Und
open Classical in
noncomputable def compF (ks:List Str) (f:Str→Row) (x:Str):List Str:=sortS (ks.filter fun y=>decide (Conn f x y))
def isMin (ks:List Str) (f:Str→Row) (x:Str):Prop:=∀ y∈ks,Conn f x y→sLe x y
open Classical in
noncomputable def groupsF (ks:List Str) (f:Str→Row):List (List Str):=((sortS ks).filter fun x=>decide (isMin ks f x)).map (compF ks f)
inductive Pth (f:Str→Row):Str→List Str→Str→Prop
  | nil (x:Str):Pth f x [] x
  | cons {x y z:Str} {w:List Str}:adj f x y→Pth f y w z→Pth f x (y :: w) z
structure Lab (ks:List Str) (f:Str→Row) (lab:Str→Str) (r:Nat):Prop where
  con:∀ x∈ks,Conn f x (lab x)
  le:∀ x∈ks,∀ w z,Pth f x w z→w.length≤r→sLe (lab x) z
end L2
namespace L2
open PySem PySem.Spec PyProof.Rows
theorem sumL_filter {α:Type} (l:List α) (p:α→Bool) (g:α→Int):sumL (l.filter p) g = sumL l fun a=>if p a = true then g a else 0:=by
  induction l with
  | nil=>rfl
  | cons a l ih =>
    rw [sumL_cons,← ih]
    by_cases c:p a = true
    · rw [List.filter_cons_of_pos c,sumL_cons,if_pos c]
    · rw [List.filter_cons_of_neg c,if_neg c];omega
theorem sumL_flat {α β:Type} (l:List α) (h:α→List β) (g:β→Int):sumL (l.flatMap h) g = sumL l fun a=>sumL (h a) g:=by
  induction l with
  | nil=>rfl
  | cons a l ih=>rw [List.flatMap_cons,sumL_app,sumL_cons,ih]
theorem cross_eq {ks:List Str} {f:Str→Row} {B:Int} (nk:ks.Nodup) (hg:GNet ks f B) (r:RowsIn ks f) (ss:List Str) :
    sumL ((linesF ks f).filter fun l=>decide (decide (l.1∈ss)≠decide (l.2.1∈ss))) (fun l=>l.2.2) = sumL ks fun x=>if x∈ss then rowOut (f x) ss else 0:=by
  have sy:∀ x∈ks,∀ y∈ks,rc f x y = rc f y x:=fun x hx y hy=>by unfold rc;rw [hg.sym x y hx hy]
  have e1:sumL ((linesF ks f).filter fun l=>decide (decide (l.1∈ss)≠decide (l.2.1∈ss))) (fun l=>l.2.2) = sumL ks fun x=>sumL ks fun y=>if sLt x y then (if decide (x∈ss)≠decide (y∈ss) then rc f x y else 0) else 0:=by
    rw [sumL_filter]
    unfold linesF
    rw [sumL_flat,sumL_perm (sortS_perm ks)]
    refine sumL_congr fun x hx=>?_
    unfold rowL
    rw [sumL_map,sumL_filter,sumL_perm (sortS_perm _)]
    have h1:=sumL_sub' nk (fun y=>if sLt x y then (if decide (x∈ss)≠decide (y∈ss) then rc f x y else 0) else 0) (r.nd x hx) (r.inn x hx)
    have h2:sumL ks (fun y=>if sLt x y then (if decide (x∈ss)≠decide (y∈ss) then rc f x y else 0) else 0) = sumL ks (fun y=>if y∈(f x).map (·.1) then (if sLt x y then (if decide (x∈ss)≠decide (y∈ss) then rc f x y else 0) else 0) else 0):=sumL_congr fun y _=>by
      by_cases c:y∈(f x).map (·.1)
      · rw [if_pos c]
      · rw [if_neg c]
        have:rc f x y = 0:=by unfold rc;rw [look_none.mpr c];rfl
        rw [this];split <;> (try split) <;> rfl
    rw [h2,h1]
    refine sumL_congr fun y hy=>?_
    by_cases c:sLt x y
    · rw [if_pos (by simpa using c),if_pos c]
      by_cases d:decide (x∈ss)≠decide (y∈ss)
      · rw [if_pos (by simpa using d),if_pos d];rfl
      · rw [if_neg (by simpa using d),if_neg d]
    · rw [if_neg (by simpa using c),if_neg c]
  have e2:(sumL ks fun x=>if x∈ss then rowOut (f x) ss else 0) = sumL ks fun x=>sumL ks fun y=>if x∈ss∧y∉ss then rc f x y else 0:=sumL_congr fun x hx=>by
    by_cases c:x∈ss
    · rw [if_pos c,rowOut_eq nk r hx]
      refine sumL_congr fun y _=>?_
      by_cases d:y∈ss
      · rw [if_pos d,if_neg (fun z=>z.2 d)]
      · rw [if_neg d,if_pos ⟨c,d⟩]
    · rw [if_neg c]
      exact (sumL_zero fun y _=>if_neg fun z=>c z.1).symm
  have e3:(sumL ks fun x=>sumL ks fun y=>if x∈ss∧y∉ss then rc f x y else 0) = (sumL ks fun x=>sumL ks fun y=>if sLt x y∧x∈ss∧y∉ss then rc f x y else 0) + sumL ks fun x=>sumL ks fun y=>if sLt y x∧x∈ss∧y∉ss then rc f x y else 0:=by
    rw [← sumL_add]
    refine sumL_congr fun x _=>?_
    rw [← sumL_add]
    refine sumL_congr fun y _=>?_
    by_cases c:x∈ss∧y∉ss
    · rw [if_pos c]
      rcases sLt_or (a:=x) (b:=y) with h | h | h
      · rw [if_pos ⟨h,c⟩,if_neg (fun z=>sLt_irrefl x (sLt_trans h z.1))];omega
      · subst h;exact absurd c.1 c.2
      · rw [if_neg (fun z=>sLt_irrefl x (sLt_trans z.1 h)),if_pos ⟨h,c⟩];omega
    · rw [if_neg c,if_neg (fun z=>c z.2),if_neg (fun z=>c z.2)];rfl
  have e4:(sumL ks fun x=>sumL ks fun y=>if sLt y x∧x∈ss∧y∉ss then rc f x y else 0) = sumL ks fun x=>sumL ks fun y=>if sLt x y∧y∈ss∧x∉ss then rc f x y else 0:=by
    rw [sumL_swap]
    refine sumL_congr fun x hx=>sumL_congr fun y hy=>?_
    rw [sy y hy x hx]
  rw [e1,e2,e3,e4,← sumL_add]
  refine sumL_congr fun x _=>?_
  rw [← sumL_add]
  refine sumL_congr fun y _=>?_
  by_cases h:sLt x y
  · rw [if_pos h]
    by_cases c:x∈ss <;> by_cases d:y∈ss <;> simp [h,c,d]
  · rw [if_neg h,if_neg (fun z=>h z.1),if_neg (fun z=>h z.1)];rfl
def llD (gs:List (List Str)):D:=.lst (gs.map fun g=>.lst (g.map D.str))
end L2
namespace K15
open PySem L2 PySem.Spec PyProof.Rows
def top (i:Nat):Stmt:=PySem.Challenge.pw_spareline_k15_whole_between.main.body.getD i (.Pass ⟨0,0,0,0⟩)
abbrev s_least_side:Stmt:=top 5
abbrev s_pushed_through:Stmt:=top 6
abbrev s_room_on:Stmt:=top 7
abbrev s_least_along:Stmt:=top 8
abbrev s_shortest_way:Stmt:=top 9
abbrev s_reached_from:Stmt:=top 10
abbrev s_lines_in:Stmt:=top 12
abbrev s_crossing_of:Stmt:=top 13
abbrev s_check_two:Stmt:=top 14
abbrev s_has_place:Stmt:=top 15
abbrev s_has_line:Stmt:=top 16
abbrev s_line_of:Stmt:=top 17
abbrev s_most_between:Stmt:=top 19
abbrev s_routes_between:Stmt:=top 20
abbrev s_side_between:Stmt:=top 21
abbrev s_is_shown:Stmt:=top 22
abbrev s_flow_on:Stmt:=top 23
abbrev s_is_route:Stmt:=top 24
abbrev s_keeps_strengths:Stmt:=top 25
abbrev s_parts_two:Stmt:=top 26
abbrev s_l_cell:Stmt:=top 28
abbrev s_l_mix:Stmt:=top 29
abbrev s_l_names:Stmt:=top 30
abbrev s_l_net:Stmt:=top 31
abbrev s_l_crossing:Stmt:=top 32
abbrev s_l_is_side:Stmt:=top 33
abbrev s_l_is_route:Stmt:=top 34
abbrev s_l_come_to:Stmt:=top 35
abbrev s_l_copy:Stmt:=top 36
abbrev s_l_turned:Stmt:=top 37
abbrev s_l_least:Stmt:=top 38
abbrev s_l_both:Stmt:=top 39
abbrev s_law:Stmt:=top 40
set_option genInjectivity false in
set_option genSizeOfSpec false in
structure Adr where
  least_side:Addr
  fd_least_side:FuncData
  pushed_through:Addr
  fd_pushed_through:FuncData
  room_on:Addr
  fd_room_on:FuncData
  least_along:Addr
  fd_least_along:FuncData
  shortest_way:Addr
  fd_shortest_way:FuncData
  reached_from:Addr
  fd_reached_from:FuncData
  lines_in:Addr
  fd_lines_in:FuncData
  crossing_of:Addr
  fd_crossing_of:FuncData
  check_two:Addr
  fd_check_two:FuncData
  has_place:Addr
  fd_has_place:FuncData
  has_line:Addr
  fd_has_line:FuncData
  line_of:Addr
  fd_line_of:FuncData
  most_between:Addr
  fd_most_between:FuncData
  routes_between:Addr
  fd_routes_between:FuncData
  side_between:Addr
  fd_side_between:FuncData
  is_shown:Addr
  fd_is_shown:FuncData
  flow_on:Addr
  fd_flow_on:FuncData
  is_route:Addr
  fd_is_route:FuncData
  keeps_strengths:Addr
  fd_keeps_strengths:FuncData
  parts_two:Addr
  fd_parts_two:FuncData
  l_cell:Addr
  fd_l_cell:FuncData
  l_mix:Addr
  fd_l_mix:FuncData
  l_names:Addr
  fd_l_names:FuncData
  l_net:Addr
  fd_l_net:FuncData
  l_crossing:Addr
  fd_l_crossing:FuncData
  l_is_side:Addr
  fd_l_is_side:FuncData
  l_is_route:Addr
  fd_l_is_route:FuncData
  l_come_to:Addr
  fd_l_come_to:FuncData
  l_copy:Addr
  fd_l_copy:FuncData
  l_turned:Addr
  fd_l_turned:FuncData
  l_least:Addr
  fd_l_least:FuncData
  l_both:Addr
  fd_l_both:FuncData
  law:Addr
  fd_law:FuncData
structure Txt (K:PySem.W.Frag) (mg:Str→Option Value) (t:Adr):Prop where
  f_least_side:Top K mg "least_side" s_least_side ["arcs","ones","others"] t.least_side t.fd_least_side
  f_pushed_through:Top K mg "pushed_through" s_pushed_through ["arcs","ones","others"] t.pushed_through t.fd_pushed_through
  f_room_on:Top K mg "room_on" s_room_on ["arcs"] t.room_on t.fd_room_on
  f_least_along:Top K mg "least_along" s_least_along ["arcs","way"] t.least_along t.fd_least_along
  f_shortest_way:Top K mg "shortest_way" s_shortest_way ["arcs","ones","others"] t.shortest_way t.fd_shortest_way
  f_reached_from:Top K mg "reached_from" s_reached_from ["arcs","ones"] t.reached_from t.fd_reached_from
  f_lines_in:Top K mg "lines_in" s_lines_in ["net"] t.lines_in t.fd_lines_in
  f_crossing_of:Top K mg "crossing_of" s_crossing_of ["net","side"] t.crossing_of t.fd_crossing_of
  f_check_two:Top K mg "check_two" s_check_two ["net","one","other"] t.check_two t.fd_check_two
  f_has_place:Top K mg "has_place" s_has_place ["net","thing"] t.has_place t.fd_has_place
  f_has_line:Top K mg "has_line" s_has_line ["net","one","other"] t.has_line t.fd_has_line
  f_line_of:Top K mg "line_of" s_line_of ["one","other"] t.line_of t.fd_line_of
  f_most_between:Top K mg "most_between" s_most_between ["net","one","other"] t.most_between t.fd_most_between
  f_routes_between:Top K mg "routes_between" s_routes_between ["net","one","other"] t.routes_between t.fd_routes_between
  f_side_between:Top K mg "side_between" s_side_between ["net","one","other"] t.side_between t.fd_side_between
  f_is_shown:Top K mg "is_shown" s_is_shown ["net","one","other","routes","side"] t.is_shown t.fd_is_shown
  f_flow_on:Top K mg "flow_on" s_flow_on ["net","room"] t.flow_on t.fd_flow_on
  f_is_route:Top K mg "is_route" s_is_route ["net","one","other","many","places"] t.is_route t.fd_is_route
  f_keeps_strengths:Top K mg "keeps_strengths" s_keeps_strengths ["net","routes"] t.keeps_strengths t.fd_keeps_strengths
  f_parts_two:Top K mg "parts_two" s_parts_two ["net","one","other","side"] t.parts_two t.fd_parts_two
  f_l_cell:Top K mg "_law_cell" s_l_cell ["_law_script","_law_k"] t.l_cell t.fd_l_cell
  f_l_mix:Top K mg "_law_mix" s_l_mix ["_law_cell_here","_law_k"] t.l_mix t.fd_l_mix
  f_l_names:Top K mg "_law_names" s_l_names ["_law_cell_here","_law_many"] t.l_names t.fd_l_names
  f_l_net:Top K mg "_law_net" s_l_net ["_law_names_here","_law_cell_here","_law_more"] t.l_net t.fd_l_net
  f_l_crossing:Top K mg "_law_crossing" s_l_crossing ["_law_net_here","_law_side"] t.l_crossing t.fd_l_crossing
  f_l_is_side:Top K mg "_law_is_side" s_l_is_side ["_law_net_here","_law_one","_law_other","_law_side"] t.l_is_side t.fd_l_is_side
  f_l_is_route:Top K mg "_law_is_route" s_l_is_route ["_law_net_here","_law_one","_law_other","_law_places"] t.l_is_route t.fd_l_is_route
  f_l_come_to:Top K mg "_law_come_to" s_l_come_to ["_law_net_here","_law_one","_law_other","_law_routes"] t.l_come_to t.fd_l_come_to
  f_l_copy:Top K mg "_law_copy" s_l_copy ["_law_net_here"] t.l_copy t.fd_l_copy
  f_l_turned:Top K mg "_law_turned" s_l_turned ["_law_net_here"] t.l_turned t.fd_l_turned
  f_l_least:Top K mg "_law_least" s_l_least ["_law_net_here","_law_one","_law_side"] t.l_least t.fd_l_least
  f_l_both:Top K mg "_law_both" s_l_both ["_law_net_here","_law_other_net","_law_one","_law_other"] t.l_both t.fd_l_both
  f_law:Top K mg "law" s_law ["_law_script"] t.law t.fd_law
  b_all:mg "all" = none
  b_dict:mg "dict" = none
  b_isinstance:mg "isinstance" = none
  b_len:mg "len" = none
  b_list:mg "list" = none
  b_max:mg "max" = none
  b_min:mg "min" = none
  b_range:mg "range" = none
  b_reversed:mg "reversed" = none
  b_set:mg "set" = none
  b_sorted:mg "sorted" = none
  b_str:mg "str" = none
  b_sum:mg "sum" = none
  b_zip:mg "zip" = none
theorem sc_least_side:FnScope ["arcs","ones","others","pushed"] ["arcs","ones","others"] (defScope s_least_side):=⟨rfl,rfl,rfl,by decide +kernel,rfl,by decide +kernel,by decide +kernel⟩
theorem sc_pushed_through:FnScope ["arcs","ones","others","room","amount","way","many","here","there"] ["arcs","ones","others"] (defScope s_pushed_through):=⟨rfl,rfl,rfl,by decide +kernel,rfl,by decide +kernel,by decide +kernel⟩
theorem sc_room_on:FnScope ["arcs","room","here","there"] ["arcs"] (defScope s_room_on):=⟨rfl,rfl,rfl,by decide +kernel,rfl,by decide +kernel,by decide +kernel⟩
theorem sc_least_along:FnScope ["arcs","way"] ["arcs","way"] (defScope s_least_along):=⟨rfl,rfl,rfl,by decide +kernel,rfl,by decide +kernel,by decide +kernel⟩
theorem sc_shortest_way:FnScope ["arcs","ones","others","ahead","goals","way"] ["arcs","ones","others"] (defScope s_shortest_way):=⟨rfl,rfl,rfl,by decide +kernel,rfl,by decide +kernel,by decide +kernel⟩
theorem sc_reached_from:FnScope ["arcs","ones","ahead","waiting","one","here","there"] ["arcs","ones"] (defScope s_reached_from):=⟨rfl,rfl,rfl,by decide +kernel,rfl,by decide +kernel,by decide +kernel⟩
theorem sc_lines_in:FnScope ["net","lines","one","other"] ["net"] (defScope s_lines_in):=⟨rfl,rfl,rfl,by decide +kernel,rfl,by decide +kernel,by decide +kernel⟩
theorem sc_crossing_of:FnScope ["net","side"] ["net","side"] (defScope s_crossing_of):=⟨rfl,rfl,rfl,by decide +kernel,rfl,by decide +kernel,by decide +kernel⟩
theorem sc_check_two:FnScope ["net","one","other","place"] ["net","one","other"] (defScope s_check_two):=⟨rfl,rfl,rfl,by decide +kernel,rfl,by decide +kernel,by decide +kernel⟩
theorem sc_has_place:FnScope ["net","thing"] ["net","thing"] (defScope s_has_place):=⟨rfl,rfl,rfl,by decide +kernel,rfl,by decide +kernel,by decide +kernel⟩
theorem sc_has_line:FnScope ["net","one","other"] ["net","one","other"] (defScope s_has_line):=⟨rfl,rfl,rfl,by decide +kernel,rfl,by decide +kernel,by decide +kernel⟩
theorem sc_line_of:FnScope ["one","other"] ["one","other"] (defScope s_line_of):=⟨rfl,rfl,rfl,by decide +kernel,rfl,by decide +kernel,by decide +kernel⟩
theorem sc_most_between:FnScope ["net","one","other"] ["net","one","other"] (defScope s_most_between):=⟨rfl,rfl,rfl,by decide +kernel,rfl,by decide +kernel,by decide +kernel⟩
theorem sc_routes_between:FnScope ["net","one","other","pushed","flow","lacking","routes","way","many","here","there"] ["net","one","other"] (defScope s_routes_between):=⟨rfl,rfl,rfl,by decide +kernel,rfl,by decide +kernel,by decide +kernel⟩
theorem sc_side_between:FnScope ["net","one","other"] ["net","one","other"] (defScope s_side_between):=⟨rfl,rfl,rfl,by decide +kernel,rfl,by decide +kernel,by decide +kernel⟩
theorem sc_is_shown:FnScope ["net","one","other","routes","side"] ["net","one","other","routes","side"] (defScope s_is_shown):=⟨rfl,rfl,rfl,by decide +kernel,rfl,by decide +kernel,by decide +kernel⟩
theorem sc_flow_on:FnScope ["net","room","flow","here","there"] ["net","room"] (defScope s_flow_on):=⟨rfl,rfl,rfl,by decide +kernel,rfl,by decide +kernel,by decide +kernel⟩
theorem sc_is_route:FnScope ["net","one","other","many","places"] ["net","one","other","many","places"] (defScope s_is_route):=⟨rfl,rfl,rfl,by decide +kernel,rfl,by decide +kernel,by decide +kernel⟩
theorem sc_keeps_strengths:FnScope ["net","routes","used","many","places","here","there","line"] ["net","routes"] (defScope s_keeps_strengths):=⟨rfl,rfl,rfl,by decide +kernel,rfl,by decide +kernel,by decide +kernel⟩
theorem sc_parts_two:FnScope ["net","one","other","side"] ["net","one","other","side"] (defScope s_parts_two):=⟨rfl,rfl,rfl,by decide +kernel,rfl,by decide +kernel,by decide +kernel⟩
theorem sc_l_cell:FnScope ["_law_script","_law_k"] ["_law_script","_law_k"] (defScope s_l_cell):=⟨rfl,rfl,rfl,by decide +kernel,rfl,by decide +kernel,by decide +kernel⟩
theorem sc_l_mix:FnScope ["_law_cell_here","_law_k","_law_number"] ["_law_cell_here","_law_k"] (defScope s_l_mix):=⟨rfl,rfl,rfl,by decide +kernel,rfl,by decide +kernel,by decide +kernel⟩
theorem sc_l_names:FnScope ["_law_cell_here","_law_many","_law_letters","_law_way","_law_size","_law_at","_law_names_here","_law_k","_law_sign"] ["_law_cell_here","_law_many"] (defScope s_l_names):=⟨rfl,rfl,rfl,by decide +kernel,rfl,by decide +kernel,by decide +kernel⟩
theorem sc_l_net:FnScope ["_law_names_here","_law_cell_here","_law_more","_law_net_here","_law_name","_law_digits","_law_i","_law_j","_law_strength","_law_number"] ["_law_names_here","_law_cell_here","_law_more"] (defScope s_l_net):=⟨rfl,rfl,rfl,by decide +kernel,rfl,by decide +kernel,by decide +kernel⟩
theorem sc_l_crossing:FnScope ["_law_net_here","_law_side","_law_total","_law_one","_law_other"] ["_law_net_here","_law_side"] (defScope s_l_crossing):=⟨rfl,rfl,rfl,by decide +kernel,rfl,by decide +kernel,by decide +kernel⟩
theorem sc_l_is_side:FnScope ["_law_net_here","_law_one","_law_other","_law_side"] ["_law_net_here","_law_one","_law_other","_law_side"] (defScope s_l_is_side):=⟨rfl,rfl,rfl,by decide +kernel,rfl,by decide +kernel,by decide +kernel⟩
theorem sc_l_is_route:FnScope ["_law_net_here","_law_one","_law_other","_law_places","_law_k"] ["_law_net_here","_law_one","_law_other","_law_places"] (defScope s_l_is_route):=⟨rfl,rfl,rfl,by decide +kernel,rfl,by decide +kernel,by decide +kernel⟩
theorem sc_l_come_to:FnScope ["_law_net_here","_law_one","_law_other","_law_routes","_law_used","_law_total","_law_many","_law_places","_law_k","_law_line"] ["_law_net_here","_law_one","_law_other","_law_routes"] (defScope s_l_come_to):=⟨rfl,rfl,rfl,by decide +kernel,rfl,by decide +kernel,by decide +kernel⟩
theorem sc_l_copy:FnScope ["_law_net_here","_law_found","_law_place"] ["_law_net_here"] (defScope s_l_copy):=⟨rfl,rfl,rfl,by decide +kernel,rfl,by decide +kernel,by decide +kernel⟩
theorem sc_l_turned:FnScope ["_law_net_here","_law_found","_law_place","_law_row","_law_other"] ["_law_net_here"] (defScope s_l_turned):=⟨rfl,rfl,rfl,by decide +kernel,rfl,by decide +kernel,by decide +kernel⟩
theorem sc_l_least:FnScope ["_law_net_here","_law_one","_law_side","_law_place","_law_rest"] ["_law_net_here","_law_one","_law_side"] (defScope s_l_least):=⟨rfl,rfl,rfl,by decide +kernel,rfl,by decide +kernel,by decide +kernel⟩
theorem sc_l_both:FnScope ["_law_net_here","_law_other_net","_law_one","_law_other","_law_routes","_law_side","_law_amount"] ["_law_net_here","_law_other_net","_law_one","_law_other"] (defScope s_l_both):=⟨rfl,rfl,rfl,by decide +kernel,rfl,by decide +kernel,by decide +kernel⟩
theorem sc_law:FnScope ["_law_script","_law_names_here","_law_net_here","_law_kept","_law_other_net","_law_cell_here","_law_one","_law_other","_law_third","_law_least_here"] ["_law_script"] (defScope s_law):=⟨rfl,rfl,rfl,by decide +kernel,rfl,by decide +kernel,by decide +kernel⟩
end K15
namespace K15
open PySem L2 PySem.Spec PyProof.Rows
section
variable {P:Program} {w:World} {K:PySem.W.Frag} {mg:Str→Option Value} {base:Heap} {t:Adr}
inductive Sp_reached (K:PySem.W.Frag) (vs:List V) (H:Hp) (Q:VK):Prop
  | mk (a b:Addr) (bs:Outer) (g:Str→L2.Row) (os:List Str):(vs = [.ref a,.ref b])→(NetR H a bs g)→(RowsIn (bs.map (·.1)) g)→(bs.length≤12)→(SqL K H b (os.map V.str))→(os.Nodup)→((∀ x∈os,x∈bs.map (·.1)))→(∀ p H' L,Same H H'→H p = none→H' p = some (.dK (ahK L))→Bfs (bs.map (·.1)) (rc g) os L→Done (bs.map (·.1)) (rc g) L L.length→L = bfsN (bs.map (·.1)) (rc g) os 12→Q (.ref p) H')→Sp_reached K vs H Q
def sp_reached (K:PySem.W.Frag):Sp:=fun vs H Q _=>Sp_reached K vs H Q
theorem ok_reached_from (T:Txt K mg t):FnOk P w K mg base CX0 1 t.reached_from t.fd_reached_from ["arcs","ones"] (sp_reached K):=by
  refine T.f_reached_from.fn.ok sc_reached_from (fun vs H Q E h=>?_) (fun cdv A outer s H vs Q E hr h=>?_)
  · obtain ⟨a,b,bs,g,os,rfl,_⟩:=h;rfl
  · obtain ⟨a,b,bs,g,os,rfl,hN,hg,hlen,hB,hnd,hos,q⟩:=h
    have hu:=hu_of hr
    have hkn:=hN.ks
    generalize hks:bs.map (·.1) = ks at hg hos q hkn
    have hkl:ks.length≤12:=by rw [← hks,List.length_map];exact hlen
    have hol:os.length≤ks.length:=nd_len hnd hos
    refine ltX ?_
    intro X' D'
    refine ⟨_,(pss_consL (ps_set (i:=2) sc_reached_from.nd rfl (Or.inl rfl) pe_dnewK)
      (pss_consL (ps_set (i:=3) sc_reached_from.nd rfl (Or.inl rfl) (pe_callB call_sortedL (by rfl) T.b_sorted boot_sorted (pa_cons (pv 1) pa_nil)))
      (pss_consL (ps_forL PassesOwn.never rfl (pi_list (pe_callB call_sortedL (by rfl) T.b_sorted boot_sorted (pa_cons (pv 1) pa_nil))) (pg_name (i:=4) sc_reached_from.nd rfl (Or.inl rfl))
        (pss_one (ps_dput hu (pv 2) (pv 4) pe_non rfl)))
      (pss_consL (ps_whileL PassesOwn.never (pt_truth (pv 3) (by intro _;rfl))
        (pss_consL (ps_set (i:=5) sc_reached_from.nd rfl (Or.inl rfl) (pe_bm PySem.F.plainAttrs_list PySem.F.slot_list_pop PySem.F.type_list_pop mt_popAt (pv 3) (pa_cons pe_int pa_nil)))
      (pss_one (ps_forL PassesOwn.never rfl (pi_list (pe_callB call_sortedD (by rfl) T.b_sorted boot_sorted (pa_cons (pe_dget hu (pv 0) (pv 5) (fun _ _=>rfl)) pa_nil))) (pg_name (i:=6) sc_reached_from.nd rfl (Or.inl rfl))
        (pss_one (ps_ifL (PW.pt (pw_and (pt_cmpR op_gt (pe_dget hu (pe_dget hu (pv 0) (pv 5) (fun _ _=>rfl)) (pv 6) (fun _ _=>rfl)) pe_int (nomark _)) (pw_and1 (pt_cmp (pc_dnotin hu (pv 6) (pv 2))))))
        (pss_consL (ps_dput hu (pv 2) (pv 6) (pv 5) rfl)
      (pss_one (ps_expr (pe_bm PySem.F.plainAttrs_list PySem.F.slot_list_append PySem.F.type_list_append mt_append (pv 3) (pa_cons (pv 6) pa_nil)))))
        pss_nil))))))
      (pss_one (ps_ret (pv 2))))))),?_⟩
    extract_lets +lift
    intro p hp
    have S0:=Same.updN (o:=.dK []) hp
    refine ⟨_,rfl,b,os,rfl,S0.seq hB,by omega,fun wa hwa=>?_⟩
    have S1:=S0.trans (Same.updN (o:=.lst ((sortS os).map V.str)) hwa)
    have pw:p≠wa:=fun e=>by rw [← e,upd_same] at hwa;cases hwa
    refine ⟨_,rfl,b,os,rfl,S1.seq hB,by omega,fun r hr'=>⟨r,rfl,⟨_,SqL.of upd_same⟩,?_⟩⟩
    have S2:=S1.trans (Same.updN (o:=.lst ((sortS os).map V.str)) hr')
    have pr:p≠r:=fun e=>by rw [← e,upd_ne pw,upd_same] at hr';cases hr'
    have wr:wa≠r:=fun e=>by rw [← e,upd_same] at hr';cases hr'
    have hwa0:=S0.free hwa
    refine (let I'1:Nat→L2.St→Hp→Prop:=fun i σ H2=>∃ x4,σ = [some (.ref a),some (.ref b),some (.ref p),some (.ref wa),x4,none,none]∧Same H H2∧H2 r = some (.lst ((sortS os).map V.str))∧H2 wa = some (.lst ((sortS os).map V.str))∧H2 p = some (.dK (ahK (((sortS os).take i).map fun x=>(x,none))));for_list (xs:=(sortS os).map V.str) I'1 ?_ (fun i σ H2 hi pv=>?_) (fun i x σ H2 hx pv=>?_) (fun σ H2 pv=>?_))
    · exact ⟨_,rfl,S2,upd_same,by rw [upd_ne wr,upd_same],by rw [upd_ne pr,upd_ne pw,upd_same];rfl⟩
    · obtain ⟨_,rfl,_,hR,_⟩:=pv
      exact SqL.of hR
    · obtain ⟨x4,rfl,hS,hR,hW,hP⟩:=pv
      rw [List.getElem?_map] at hx
      cases hk:(sortS os)[i]? with
      | none=>rw [hk] at hx;cases hx
      | some k =>
      rw [hk] at hx
      cases hx
      have hil:i < os.length:=by
        have:=(List.getElem?_eq_some_iff.mp hk).1
        rw [sortS_len] at this;exact this
      have hno:k∉(((sortS os).take i).map fun x=>((x,none):Str×Option Str)).map (·.1):=by
        rw [List.map_map]
        have:((sortS os).take i).map ((fun x:Str×Option Str=>x.1) ∘ fun x=>(x,none)) = (sortS os).take i:=List.map_id' _
        rw [this]
        exact nodup_take (sortS_nodup hnd) hk
      have hput:=ahK_put (p:=none) hno
      refine ⟨_,rfl,_,rfl,p,_,rfl,DPut.k (k:=Sum.inr k) (v:=.non) hP (by unfold ahK;simp only [List.length_map,List.length_take];exact szl (by omega)),_,rfl,hS.upd hp,?_,?_,?_⟩
      · rw [upd_ne (Ne.symm pr)];exact hR
      · rw [upd_ne (Ne.symm pw)];exact hW
      · rw [upd_same,List.take_add_one,hk,List.map_append]
        exact congrArg (fun z=>some (HO.dK z)) hput
    · obtain ⟨x4,rfl,hS,hR,hW,hP⟩:=pv
      rw [List.length_map,List.take_of_length_le (Nat.le_refl _)] at hP
      let W'1:Nat→L2.St→Hp→Prop:=fun m σ H3=>∃ x4 x5 x6 L i,m = 12 - i∧σ = [some (.ref a),some (.ref b),some (.ref p),some (.ref wa),x4,x5,x6]∧Same H H3∧H3 wa = some (.lst (((L.drop i).map (·.1)).map V.str))∧H3 p = some (.dK (ahK L))∧Bfs ks (rc g) os L∧Done ks (rc g) L i∧i≤L.length∧L = bfsN ks (rc g) os i
      refine ⟨W'1,⟨12,_,_,_,(sortS os).map fun x=>(x,none),0,rfl,rfl,hS,?_,hP,Bfs.start hnd hos,fun x hx=>absurd hx (by simp),Nat.zero_le _,rfl⟩,fun m σ H3 pv=>?_⟩
      · have e0:((sortS os).map fun x=>((x,none):Str×Option Str)).map (·.1) = sortS os:=by rw [List.map_map];exact List.map_id' _
        rw [List.drop_zero,e0];exact hW
      · obtain ⟨x4,x5,x6,L,i,rfl,rfl,hS3,hW3,hP3,hb,hd,hiL,hLN⟩:=pv
        have hLl:=hb.len
        refine ⟨_,rfl,_,.inl ⟨_,SqL.of hW3,rfl⟩,?_⟩
        refine iteB (fun hne=>?_) (fun he=>?_)
        · have hlt:i < L.length:=by
            rcases Nat.lt_or_ge i L.length with c | c
            · exact c
            · rw [List.drop_eq_nil_of_le c] at hne;simp at hne
          obtain ⟨e,he⟩:∃ e,L[i]? = some e:=⟨_,List.getElem?_eq_getElem hlt⟩
          have hdrop:L.drop i = e :: L.drop (i + 1):=by
            rw [List.drop_eq_getElem_cons hlt]
            congr 1
            exact (List.getElem?_eq_some_iff.mp he).2
          have hws:((L.drop i).map (·.1)).map V.str = V.str e.1 :: ((L.drop (i + 1)).map (·.1)).map V.str:=by rw [hdrop];rfl
          rw [hws] at hW3
          have hem:e.1∈ks:=hb.mem e.1 (List.mem_map.mpr ⟨_,List.mem_of_getElem? he,rfl⟩)
          have hwl:(((L.drop (i + 1)).map (·.1)).map V.str).length≤12:=by simp only [List.length_map,List.length_drop];omega
          let W'2:L2.St→Hp→Prop:=fun σ' H'=>∃ m',m' < 12 - i∧∃ x4 x5 x6 L i,m' = 12 - i∧σ' = [some (.ref a),some (.ref b),some (.ref p),some (.ref wa),x4,x5,x6]∧Same H H'∧H' wa = some (.lst (((L.drop i).map (·.1)).map V.str))∧H' p = some (.dK (ahK L))∧Bfs ks (rc g) os L∧Done ks (rc g) L i∧i≤L.length∧L = bfsN ks (rc g) os i
          refine ⟨W'2,fun _ _ h=>h,?_⟩
          refine ⟨_,rfl,.inl ⟨rfl,_,SqL.of hW3⟩,wa,_,0,0,_,rfl,rfl,hW3,by decide,by decide,seqIx (Int.le_refl _) (by rw [List.length_cons];omega),rfl,?_⟩
          have hS4:Same H (upd H3 wa (.lst ((V.str e.1 :: ((L.drop (i + 1)).map (·.1)).map V.str).eraseIdx 0))):=hS3.upd hwa0
          have hW4:(upd H3 wa (.lst ((V.str e.1 :: ((L.drop (i + 1)).map (·.1)).map V.str).eraseIdx 0))) wa = some (.lst (((L.drop (i + 1)).map (·.1)).map V.str)):=upd_same
          have hP4:(upd H3 wa (.lst ((V.str e.1 :: ((L.drop (i + 1)).map (·.1)).map V.str).eraseIdx 0))) p = some (.dK (ahK L)):=by rw [upd_ne pw];exact hP3
          generalize upd H3 wa (.lst ((V.str e.1 :: ((L.drop (i + 1)).map (·.1)).map V.str).eraseIdx 0)) = H4 at hS4 hW4 hP4
          have hN4:=hN.sm hS4.sm
          obtain ⟨b1,hb1,hbr⟩:=hN4.row (x:=e.1) (hks ▸ hem)
          have hrow:((g e.1).map (·.1)).length≤ks.length:=nd_len (hg.nd e.1 hem) (hg.inn e.1 hem)
          refine ⟨_,rfl,_,rfl,a,.ref b1,rfl,hN4.dget hb1,rfl,b1,_,(g e.1).map (·.1),rfl,hbr,keysS_encI _,by omega,fun r2 hr2=>⟨r2,rfl,⟨_,SqL.of upd_same⟩,?_⟩⟩
          have r2w:wa≠r2:=ne_of_none hW4 hr2
          have r2p:p≠r2:=ne_of_none hP4 hr2
          have T1:=hS4.trans (Same.updN (o:=.lst ((sortS ((g e.1).map (·.1))).map V.str)) hr2)
          refine (let I'2:Nat→L2.St→Hp→Prop:=fun j σ H5=>∃ x6 L',σ = [some (.ref a),some (.ref b),some (.ref p),some (.ref wa),x4,some (.str e.1),x6]∧Same H H5∧H5 r2 = some (.lst ((sortS ((g e.1).map (·.1))).map V.str))∧H5 wa = some (.lst (((L'.drop (i + 1)).map (·.1)).map V.str))∧H5 p = some (.dK (ahK L'))∧Bfs ks (rc g) os L'∧Done ks (rc g) L' i∧L'[i]? = some e∧L' = L ++ (((sortS ((g e.1).map (·.1))).take j).filter (newB (rc g) L e.1)).map (fun y=>(y,some e.1))∧∀ y∈(sortS ((g e.1).map (·.1))).take j,0 < rc g e.1 y→y∈L'.map (·.1);for_list (xs:=(sortS ((g e.1).map (·.1))).map V.str) I'2 ?_ (fun j σ H5 hj pv=>?_) (fun j x σ H5 hx pv=>?_) (fun σ H5 pv=>?_))
          · exact ⟨_,L,rfl,T1,upd_same,by rw [upd_ne r2w];exact hW4,by rw [upd_ne r2p];exact hP4,hb,hd,he,by simp,fun y hy=>absurd hy (by simp)⟩
          · obtain ⟨_,_,rfl,_,hR5,_⟩:=pv
            exact SqL.of hR5
          · obtain ⟨x6,L',rfl,hS5,hR5,hW5,hP5,hb5,hd5,he5,hL',hin⟩:=pv
            rw [List.getElem?_map] at hx
            cases hy:(sortS ((g e.1).map (·.1)))[j]? with
            | none=>rw [hy] at hx;cases hx
            | some y =>
            rw [hy] at hx
            cases hx
            have hym:y∈(g e.1).map (·.1):=mem_sortS.mp (List.mem_of_getElem? hy)
            obtain ⟨v,hv⟩:=look_some_iff.mpr hym
            have hrc:rc g e.1 y = v:=by unfold rc;rw [hv];rfl
            have hN5:=hN.sm hS5.sm
            have hL5:=hb5.len
            have hyt:y∉(sortS ((g e.1).map (·.1))).take j:=nodup_take (sortS_nodup (hg.nd e.1 hem)) hy
            have hold:y∈L'.map (·.1) ↔ y∈L.map (·.1):=by
              rw [hL',List.map_append,List.mem_append]
              refine ⟨fun c=>c.resolve_right fun d=>?_,.inl⟩
              obtain ⟨z,hz,e⟩:=List.mem_map.mp d
              obtain ⟨u,hu2,e2⟩:=List.mem_map.mp hz
              rw [← e2] at e
              have e3:u = y:=e
              rw [e3] at hu2
              exact hyt (List.mem_filter.mp hu2).1
            have tk:((sortS ((g e.1).map (·.1))).take (j + 1)).filter (newB (rc g) L e.1) = ((sortS ((g e.1).map (·.1))).take j).filter (newB (rc g) L e.1) ++ (if newB (rc g) L e.1 y then [y] else []):=by
              rw [List.take_add_one,hy,List.filter_append]
              cases z:newB (rc g) L e.1 y <;> simp [z]
            have step:y∈L'.map (·.1)∨¬ 0 < v→∃ x6 L'',[some (V.ref a),some (.ref b),some (.ref p),some (.ref wa),x4,some (.str e.1),some (.str y)] = [some (.ref a),some (.ref b),some (.ref p),some (.ref wa),x4,some (.str e.1),x6]∧Same H H5∧H5 r2 = some (.lst ((sortS ((g e.1).map (·.1))).map V.str))∧H5 wa = some (.lst (((L''.drop (i + 1)).map (·.1)).map V.str))∧H5 p = some (.dK (ahK L''))∧Bfs ks (rc g) os L''∧Done ks (rc g) L'' i∧L''[i]? = some e∧L'' = L ++ (((sortS ((g e.1).map (·.1))).take (j + 1)).filter (newB (rc g) L e.1)).map (fun y=>(y,some e.1))∧∀ z∈(sortS ((g e.1).map (·.1))).take (j + 1),0 < rc g e.1 z→z∈L''.map (·.1):=fun hc=>by
              have hnew:newB (rc g) L e.1 y = false:=by
                unfold newB
                rcases hc with c | c
                · rw [decide_eq_true (hold.mp c)];simp
                · rw [hrc,decide_eq_false c];rfl
              refine ⟨_,L',rfl,hS5,hR5,hW5,hP5,hb5,hd5,he5,by rw [tk,hL',hnew];simp,fun z hz h0=>?_⟩
              rw [List.take_add_one,hy] at hz
              rcases List.mem_append.mp hz with c | c
              · exact hin z c h0
              · have:z = y:=by simpa using c
                rw [this] at h0 ⊢
                rw [hrc] at h0
                exact hc.resolve_right (fun z=>z h0)
            refine ⟨_,rfl,_,rfl,a,_,rfl,hN5.dget hb1,_,rfl,b1,_,rfl,hN5.rget' hb1 hv,_,_,rfl,rfl,_,rfl,iteD (fun h0=>?_) (fun h0=>iteF (step (.inr h0)))⟩
            refine ⟨_,rfl,_,rfl,p,_,rfl,DGet.k (k:=Sum.inr y) hP5,_,rfl,?_⟩
            rw [valV_ahK]
            by_cases hmem:y∈L'.map (·.1)
            · have:∃ o,ahOf L' y = some o:=by
                cases q:ahOf L' y with
                | none=>exact absurd hmem (ahOf_none.mp q)
                | some o=>exact ⟨o,rfl⟩
              obtain ⟨o,ho⟩:=this
              rw [ho]
              exact iteF (step (.inl hmem))
            · rw [ahOf_none.mpr hmem]
              have hput:=ahK_put (p:=some e.1) hmem
              have hkey:y∈ks:=hg.inn e.1 hem y hym
              refine iteT ⟨_,rfl,_,rfl,_,rfl,p,_,rfl,DPut.k (k:=Sum.inr y) (v:=.str e.1) hP5 (by unfold ahK;rw [List.length_map];exact szl (by omega)),?_⟩
              have hW6:(upd H5 p (.dK (putK (ahK L') (Sum.inr y) (.str e.1)))) wa = some (.lst (((L'.drop (i + 1)).map (·.1)).map V.str)):=by rw [upd_ne (Ne.symm pw)];exact hW5
              have hiL':i < L'.length:=(List.getElem?_eq_some_iff.mp he5).1
              refine ⟨_,rfl,.inl ⟨rfl,_,SqL.of hW6⟩,_,rfl,wa,_,_,rfl,rfl,hW6,(by simp only [List.length_map,List.length_drop];exact szl (by omega)),?_⟩
              refine ⟨_,L' ++ [(y,some e.1)],rfl,(hS5.upd hp).upd hwa0,?_,?_,?_,hb5.snoc he5 hmem hkey (by rw [hrc];exact h0),hd5.snoc (by omega) _,?_,?_,fun z hz h1=>?_⟩
              · rw [upd_ne (ne_of_none hW4 hr2).symm,upd_ne (ne_of_none hP4 hr2).symm];exact hR5
              · rw [upd_same,List.drop_append_of_le_length (by omega),List.map_append,List.map_append];rfl
              · rw [upd_ne pw,upd_same]
                exact congrArg (fun z=>some (HO.dK z)) hput
              · rw [List.getElem?_append_left hiL'];exact he5
              · have hnew:newB (rc g) L e.1 y = true:=by
                  unfold newB
                  rw [hrc,decide_eq_true h0,decide_eq_false (fun c=>hmem (hold.mpr c))];rfl
                rw [tk,hnew,hL',List.map_append,List.append_assoc];rfl
              · rw [List.map_append]
                rw [List.take_add_one,hy] at hz
                rcases List.mem_append.mp hz with c | c
                · exact List.mem_append_left _ (hin z c h1)
                · have:z = y:=by simpa using c
                  rw [this];exact List.mem_append_right _ (by simp)
          · obtain ⟨x6,L',rfl,hS5,hR5,hW5,hP5,hb5,hd5,he5,hL',hin⟩:=pv
            have hiL':i < L'.length:=(List.getElem?_eq_some_iff.mp he5).1
            have hL5:=hb5.len
            refine ⟨12 - (i + 1),by omega,_,_,_,L',i + 1,rfl,rfl,hS5,hW5,hP5,hb5,fun x hx y hy h0=>?_,hiL',?_⟩
            rotate_left
            · rw [List.length_map,List.take_of_length_le (Nat.le_refl _)] at hL'
              show L' = bfsStep ks (rc g) (bfsN ks (rc g) os i) i
              rw [← hLN]
              unfold bfsStep
              rw [he,hL']
              show _ = L ++ _
              rw [sort_filter hkn (hg.nd e.1 hem) (hg.inn e.1 hem) (fun z _ hz=>?_)]
              have h0:0 < rc g e.1 z:=by
                unfold newB at hz
                have:=(Bool.and_eq_true_iff.mp hz).1
                exact of_decide_eq_true this
              unfold rc at h0
              cases hl:look (g e.1) z with
              | none=>rw [hl] at h0;simp at h0
              | some v=>exact look_some_iff.mp ⟨v,hl⟩
            rw [List.take_add_one,he5,List.map_append] at hx
            rcases List.mem_append.mp hx with c | c
            · exact hd5 x c y hy h0
            · have hx1:x = e.1:=by simpa using c
              rw [hx1] at h0
              refine hin y ?_ h0
              rw [List.length_map,List.take_of_length_le (Nat.le_refl _)]
              refine mem_sortS.mpr ?_
              unfold rc at h0
              cases hl:look (g e.1) y with
              | none=>rw [hl] at h0;simp at h0
              | some v=>exact look_some_iff.mp ⟨v,hl⟩
        · have hge:L.length≤i:=by
            have h1:((L.drop i).map (·.1)).map V.str = []:=by simpa using he
            have h2:=congrArg List.length h1
            simp only [List.length_map,List.length_drop,List.length_nil] at h2
            omega
          have hii:i = L.length:=by omega
          rw [hii] at hd
          obtain ⟨d,hd12⟩:=Nat.exists_eq_add_of_le (show i≤12 by omega)
          have hfin:=bfsN_done hLN hge d
          rw [← hd12] at hfin
          exact ⟨_,rfl,q p H3 L hS3 hp hP3 hb hd hfin.symm⟩
end
end K15
namespace K15
open PySem L2 PySem.Spec PyProof.Rows
section
variable {P:Program} {w:World} {K:PySem.W.Frag} {mg:Str→Option Value} {base:Heap} {t:Adr}
def ShortW (ks:List Str) (r:Fl) (os ts:List Str) (w:List Str):Prop :=
  (w = []∧∃ L,Bfs ks r os L∧Done ks r L L.length∧∀ x∈ts,x∉L.map (·.1)) ∨
  ∃ k x0 xk,w[0]? = some x0∧w[k]? = some xk∧w.length = k + 1∧x0∈os∧xk∈ts∧w.Nodup∧(∀ x∈w,x∈ks)∧∀ (i:Nat) (x y:Str),w[i]? = some x→w[i + 1]? = some y→0 < r x y
inductive Sp_short (K:PySem.W.Frag) (vs:List V) (H:Hp) (Q:VK):Prop
  | mk (a b c:Addr) (bs:Outer) (g:Str→L2.Row) (os ts:List Str):(vs = [.ref a,.ref b,.ref c])→(NetR H a bs g)→(RowsIn (bs.map (·.1)) g)→(bs.length≤12)→(SqL K H b (os.map V.str))→(os.Nodup)→((∀ x∈os,x∈bs.map (·.1)))→(SqL K H c (ts.map V.str))→(∀ p H' w,Same H H'→H p = none→H' p = some (.lst (w.map V.str))→ShortW (bs.map (·.1)) (rc g) os ts w→w = shortF (bs.map (·.1)) (rc g) os ts→Q (.ref p) H')→Sp_short K vs H Q
def sp_short (K:PySem.W.Frag):Sp:=fun vs H Q _=>Sp_short K vs H Q
theorem ok_shortest_way (T:Txt K mg t):FnOk P w K mg base CX0 2 t.shortest_way t.fd_shortest_way ["arcs","ones","others"] (sp_short K):=by
  refine T.f_shortest_way.fn.ok sc_shortest_way (fun vs H Q E h=>?_) (fun cdv A outer s H vs Q E hr h=>?_)
  · obtain ⟨a,b,c,bs,g,os,ts,rfl,_⟩:=h;rfl
  · obtain ⟨a,b,c,bs,g,os,ts,rfl,hN,hg,hlen,hB,hnd,hos,hC,q⟩:=h
    have hu:=hu_of hr
    refine ltX ?_
    intro X' D'
    refine ⟨_,(pss_consL (ps_set (i:=3) sc_shortest_way.nd rfl (Or.inl rfl) (pe_call (ok_reached_from T) (hr.mono (by decide)) rfl T.f_reached_from.mg T.f_reached_from.kp T.f_reached_from.bd .nil pass0 (pa_cons (pv 0) (pa_cons (pv 1) pa_nil))))
      (pss_consL (ps_setC (i:=4) ["place"] [2] rfl sc_shortest_way.nd rfl rfl (pi_dict (pv 3)) (fun _ _ _ _ _=>(pg_name (i:=0) (show (["place","others"]:List Str).Nodup by decide +kernel) rfl (Or.inl rfl))) (fun _ _ _ _ _=>(pif_one (pt_cmpR (op_in_seqK (K:=K) rfl) (pv 0) (pv 1) rfl))) (fun _ _ _ _ _=>(pv 0)) ⟨⟨_,rfl,rfl,.inl rfl⟩,trivial⟩ (hfr:=by show ∀ y∈(_:List (Str×NameKind)),y.2 = NameKind.free→(defScope s_shortest_way).names.lookup y.1 = some NameKind.cell∨(defScope s_shortest_way).names.lookup y.1 = some NameKind.free;decide +kernel))
      (pss_consL (ps_ifL (pt_not (pt_truth (pv 4) (by intro _;rfl)))
        (pss_one (ps_ret (pe_lst pa_nil)))
        pss_nil)
      (pss_consL (ps_set (i:=5) sc_shortest_way.nd rfl (Or.inl rfl) (pe_lst (pa_cons (pe_ix ix_list (pv 4) pe_int (fun _ _=>rfl)) pa_nil)))
      (pss_consL (ps_whileL PassesOwn.never (pt_cmpR op_notN (pe_dget hu (pv 3) (pe_ix ix_list (pv 5) pe_int (fun _ _=>rfl)) (fun _ _=>rfl)) pe_non (nomark _))
        (pss_one (ps_expr (pe_bm PySem.F.plainAttrs_list PySem.F.slot_list_insert PySem.F.type_list_insert mt_insert0 (pv 5) (pa_cons pe_int (pa_cons (pe_dget hu (pv 3) (pe_ix ix_list (pv 5) pe_int (fun _ _=>rfl)) (fun _ _=>rfl)) pa_nil))))))
      (pss_one (ps_ret (pv 5)))))))),?_⟩
    extract_lets +lift
    refine ⟨_,rfl,_,rfl,a,b,bs,g,os,rfl,hN,hg,hlen,hB,hnd,hos,fun p H1 L S1 hp hP hb hd hLf=>?_⟩
    generalize hks:bs.map (·.1) = ks at hg hos q hb hd hLf
    have hkl:ks.length≤12:=by rw [← hks,List.length_map];exact hlen
    have hLl:=hb.len
    refine ⟨_,rfl,p,_,rfl,.inl hP,fun o H2 fz=>?_⟩
    have e2:H2 = upd H1 p (.frz o (.dK (ahK L))):=by
      obtain ⟨h,e | ⟨_,e⟩⟩:=fz
      · rw [e,hP] at h;cases h
      · exact e
    have S2:Same H H2:=by rw [e2];exact S1.upd hp
    have hP2:H2 p = some (.frz o (.dK (ahK L))):=by rw [e2,upd_same]
    clear e2 fz
    have hal:(ahK L).length = L.length:=by unfold ahK;simp
    refine (let I'1:Nat→List V→Hp→Prop:=fun i ys H3=>H3 = H2∧i≤L.length∧ys = (((L.take i).map (·.1)).filter fun x=>decide (x∈ts)).map V.str;comp_inv (ahK L).length I'1 ⟨rfl,Nat.zero_le _,rfl⟩ (fun i ys H3 pv=>?_) (fun i ys H3 hi pv=>?_) (fun ys H3 pv=>?_))
    · obtain ⟨_,h2,rfl⟩:=pv
      rw [List.length_map]
      refine Nat.lt_of_le_of_lt (List.length_filter_le _ _) ?_
      rw [List.length_map,List.length_take]
      exact szl (by omega)
    · obtain ⟨rfl,h2,rfl⟩:=pv
      rw [hal] at hi
      obtain ⟨e,he⟩:∃ e,L[i]? = some e:=⟨_,List.getElem?_eq_getElem hi⟩
      have hke:(ahK L)[i]? = some (Sum.inr e.1,ahV e.2):=by unfold ahK;rw [List.getElem?_map,he];rfl
      refine ⟨⟨hP2,by rw [hal];exact hi⟩,?_⟩
      rintro v H4 ⟨rfl,k,u,hv,rfl⟩
      rw [hke] at hv
      cases hv
      refine ⟨_,rfl,_,rfl,c,ts.map V.str,rfl,.inl (S2.seq hC),rfl,flat_strs ts,_,rfl,?_⟩
      have hin:(if false = true then !inV (kV (Sum.inr e.1)) (ts.map V.str) else inV (kV (Sum.inr e.1)) (ts.map V.str)) = decide (e.1∈ts):=by rw [if_neg (by decide)];exact inV_strs e.1 ts
      have tk:(((L.take (i + 1)).map (·.1)).filter fun x=>decide (x∈ts)) = (((L.take i).map (·.1)).filter fun x=>decide (x∈ts)) ++ (if e.1∈ts then [e.1] else []):=by
        rw [List.take_add_one,he,List.map_append,List.filter_append]
        congr 1
        by_cases z:e.1∈ts <;> simp [z]
      show if _ = true then _ else _
      rw [hin]
      refine iteD (fun z=>⟨_,rfl,nxC (by rw [hal];exact hi) ⟨rfl,hi,?_⟩⟩) (fun z=>nxC (by rw [hal];exact hi) ⟨rfl,hi,?_⟩)
      · rw [tk,if_pos z,List.map_append];rfl
      · rw [tk,if_neg z,List.append_nil]
    · obtain ⟨rfl,_,rfl⟩:=pv
      rw [hal,List.take_of_length_le (Nat.le_refl _)]
      generalize hgs:((L.map (·.1)).filter fun x=>decide (x∈ts)) = gs
      refine ⟨⟨hP2,by rw [hal];exact Nat.le_refl _⟩,fun gp hgp=>?_⟩
      have S3:=S2.trans (Same.updN (o:=.lst (gs.map V.str)) hgp)
      have hG:(upd H3 gp (.lst (gs.map V.str))) gp = some (.lst (gs.map V.str)):=upd_same
      have hP3:(upd H3 gp (.lst (gs.map V.str))) p = some (.frz o (.dK (ahK L))):=by rw [upd_ne (ne_of_none hP2 hgp)];exact hP2
      generalize upd H3 gp (.lst (gs.map V.str)) = H4 at S3 hG hP3
      refine ⟨_,rfl,_,.inl ⟨_,SqL.of hG,rfl⟩,?_⟩
      cases hgc:gs with
      | nil =>
        refine iteT ⟨(by decide),fun wp hwp=>q wp _ [] (S3.trans (Same.updN hwp)) (S3.free hwp) upd_same (.inl ⟨rfl,L,hb,hd,fun x hx hm=>?_⟩) (by unfold shortF;rw [← hLf,hgs,hgc])⟩
        have:x∈gs:=by rw [← hgs];exact List.mem_filter.mpr ⟨hm,by simpa using hx⟩
        rw [hgc] at this;simp at this
      | cons x0 gt =>
        rw [hgc] at hG
        refine iteF ⟨_,rfl,gp,_,0,.str x0,rfl,rfl,SqL.of hG,atI_nat (j:=0) rfl,(by show 1≤sizeLine;decide),fun wp hwp=>?_⟩
        have hx0:x0∈(L.map (·.1))∧x0∈ts:=by
          have:x0∈gs:=by rw [hgc];simp
          rw [← hgs] at this
          obtain ⟨h1,h2⟩:=List.mem_filter.mp this
          exact ⟨h1,by simpa using h2⟩
        obtain ⟨e,he,hex⟩:=List.mem_map.mp hx0.1
        obtain ⟨i0,hi0⟩:=List.getElem?_of_mem he
        obtain ⟨ex,ep⟩:=e
        subst hex
        have S4:=S3.trans (Same.updN (o:=.lst [V.str ex]) hwp)
        have hP4:(upd H4 wp (.lst [V.str ex])) p = some (.frz o (.dK (ahK L))):=by rw [upd_ne (ne_of_none hP3 hwp)];exact hP3
        have hwp0:=S3.free hwp
        have getA:∀ {Hx:Hp} {i:Nat} {x:Str} {op:Option Str},Hx p = some (.frz o (.dK (ahK L)))→L[i]? = some (x,op)→DGet Hx p (.str x) (some (ahV op)):=fun {Hx} {i} {x} {op} h1 h2=>by
          have:=ahOf_get hb.nd h2
          exact .inl ⟨ahK L,Sum.inr x,.inr ⟨o,h1⟩,rfl,by rw [valV_ahK,this];rfl⟩
        let W'1:Nat→L2.St→Hp→Prop:=fun m σ H5=>∃ i w,m = i∧σ = [some (.ref a),some (.ref b),some (.ref c),some (.ref p),some (.ref gp),some (.ref wp)]∧Same H H5∧H5 wp = some (.lst (w.map V.str))∧H5 p = some (.frz o (.dK (ahK L)))∧Trail ks os (rc g) L i w∧(∃ n,n + 1 = w.length∧w = itN (stepW L) n [ex])∧∃ k,w[k]? = some ex∧w.length = k + 1
        refine ⟨W'1,⟨i0,i0,[ex],rfl,rfl,S4,upd_same,hP4,Trail.one hb hi0,⟨0,rfl,rfl⟩,0,rfl,rfl⟩,fun m σ H5 pv=>?_⟩
        obtain ⟨i,w,rfl,rfl,S5,hW5,hP5,tr,⟨n,hn1,hn2⟩,k,hk,hwl⟩:=pv
        obtain ⟨x,op,hx,hL⟩:=tr.head
        have hat:atI (w.map V.str) 0 = some (.str x):=atI_nat (j:=0) (by rw [List.getElem?_map,hx];rfl)
        have hwlen:w.length≤12:=Nat.le_trans (nd_len tr.nd tr.mem) hkl
        refine ⟨_,rfl,_,rfl,wp,_,0,.str x,rfl,rfl,SqL.of hW5,hat,p,_,rfl,getA hP5 hL,rfl,_,rfl,?_⟩
        rcases hb.par _ x op hL with ⟨hn,hxo⟩ | ⟨y,j,oq,hs',hj,hjL,hrr⟩
        · rw [hn]
          refine iteF ⟨_,rfl,q wp H5 w S5 hwp0 hW5 (.inr ⟨k,x,ex,hx,hk,hwl,hxo,hx0.2,tr.nd,tr.mem,tr.room⟩) ?_⟩
          unfold shortF
          rw [← hLf,hgs,hgc]
          show w = itN (stepW L) 12 [ex]
          have fx:stepW L w = w:=by
            cases w with
            | nil=>rfl
            | cons z w =>
              have:z = x:=by simpa using hx
              subst this
              have ao:=ahOf_get hb.nd hL
              show (match ahOf L z with | some (some y)=>y :: z :: w | _=>z :: w) = _
              rw [show ahOf L z = some op from ao,hn]
          rw [hn2] at fx
          rw [itN_fix' fx (show n≤12 by omega)];exact hn2
        · rw [hs']
          rw [hs'] at hL
          let W'2:L2.St→Hp→Prop:=fun σ' H'=>∃ m',m' < m∧∃ i w,m' = i∧σ' = [some (.ref a),some (.ref b),some (.ref c),some (.ref p),some (.ref gp),some (.ref wp)]∧Same H H'∧H' wp = some (.lst (w.map V.str))∧H' p = some (.frz o (.dK (ahK L)))∧Trail ks os (rc g) L i w∧(∃ n,n + 1 = w.length∧w = itN (stepW L) n [ex])∧∃ k,w[k]? = some ex∧w.length = k + 1
          refine iteT ⟨W'2,fun _ _ h=>h,?_⟩
          refine ⟨_,rfl,.inl ⟨rfl,_,SqL.of hW5⟩,_,rfl,_,rfl,wp,_,0,.str x,rfl,rfl,SqL.of hW5,hat,p,_,rfl,getA hP5 hL,wp,_,.str y,rfl,rfl,hW5,(by rw [List.length_map];exact szl (by omega)),?_⟩
          refine ⟨j,hj,j,y :: w,rfl,rfl,S5.upd hwp0,?_,?_,tr.cons hb hx hj hjL hrr,⟨n + 1,by rw [List.length_cons,hn1],?_⟩,k + 1,by rw [List.getElem?_cons_succ];exact hk,by rw [List.length_cons,hwl]⟩
          · rw [upd_same];rfl
          · rw [upd_ne (ne_of hP5 hW5 (by intro z;cases z))];exact hP5
          · show y :: w = stepW L (itN (stepW L) n [ex])
            rw [← hn2]
            cases w with
            | nil=>simp at hx
            | cons z w =>
              have:z = x:=by simpa using hx
              subst this
              have ao:=ahOf_get hb.nd hL
              show _ = (match ahOf L z with | some (some y)=>y :: z :: w | _=>z :: w)
              rw [show ahOf L z = some (some y) from ao]
end
end K15
namespace K15
open PySem L2 PySem.Spec PyProof.Rows
section
variable {P:Program} {w:World} {K:PySem.W.Frag} {mg:Str→Option Value} {base:Heap} {t:Adr}
inductive Sp_least (K:PySem.W.Frag) (vs:List V) (H:Hp) (Q:VK):Prop
  | mk (a b:Addr) (bs:Outer) (g:Str→L2.Row) (w:List Str):(vs = [.ref a,.ref b])→(NetR H a bs g)→(SqL K H b (w.map V.str))→(2≤w.length)→(w.length≤12)→((∀ (i:Nat) (x y:Str),w[i]? = some x→w[i + 1]? = some y→x∈bs.map (·.1)∧(look (g x) y).isSome = true))→(∀ m H',Same H H'→(∀ (i:Nat) (x y:Str),w[i]? = some x→w[i + 1]? = some y→m≤rc g x y)→(∃ (i:Nat) (x y:Str),w[i]? = some x∧w[i + 1]? = some y∧m = rc g x y)→Q (.int m) H')→Sp_least K vs H Q
def sp_least (K:PySem.W.Frag):Sp:=fun vs H Q _=>Sp_least K vs H Q
theorem ok_least_along (T:Txt K mg t):FnOk P w K mg base CX0 1 t.least_along t.fd_least_along ["arcs","way"] (sp_least K):=by
  refine T.f_least_along.fn.ok sc_least_along (fun vs H Q E h=>?_) (fun cdv A outer s H vs Q E hr h=>?_)
  · obtain ⟨a,b,bs,g,w,rfl,_⟩:=h;rfl
  · obtain ⟨a,b,bs,g,w,rfl,hN,hB,hw2,hw12,hkey,q⟩:=h
    have hu:=hu_of hr
    refine ltX ?_
    intro X' D'
    refine ⟨_,(pss_one (ps_ret (pe_callB (call_minL rfl) (by rfl) T.b_min boot_min' (pa_cons (pe_comp ["here","there"] [0] rfl (pi_zip rfl T.b_zip (pa_cons (pv 1) (pa_cons (pe_slice sl_list (pv 1) (po_some pe_int) po_none) pa_nil))) (fun _ _ _ _ _=>(pg_twoK (K:=K) rfl (i:=0) (j:=1) rfl (show (["here","there","arcs"]:List Str).Nodup by decide +kernel) rfl rfl (Or.inl rfl) (Or.inl rfl))) (fun _ _ _ _ _=>pif_nil) (fun _ _ _ _ _=>(pe_dget hu (pe_dget hu (pv 2) (pv 0) (fun _ _=>rfl)) (pv 1) (fun _ _=>rfl))) ⟨⟨_,rfl,rfl,.inl rfl⟩,trivial⟩ (hfr:=by show ∀ y∈(_:List (Str×NameKind)),y.2 = NameKind.free→(defScope s_least_along).names.lookup y.1 = some NameKind.cell∨(defScope s_least_along).names.lookup y.1 = some NameKind.free;decide +kernel)) pa_nil)))),?_⟩
    refine ⟨_,rfl,_,rfl,_,rfl,b,_,rfl,hB,fun sp hsp=>?_⟩
    have hcut:cutV (w.map V.str) (some 1) none = (w.drop 1).map V.str:=by
      unfold cutV
      rw [HT.sIx_none,sIx_of (by decide),List.length_map,← List.map_drop,← List.map_take]
      congr 1
      have:min (1:Int).toNat w.length = 1:=by show min 1 w.length = 1;omega
      rw [this]
      exact List.take_of_length_le (by rw [List.length_drop];omega)
    rw [hcut]
    have S1:=Same.updN (o:=.lst ((w.drop 1).map V.str)) hsp
    have hsp1:(upd H sp (.lst ((w.drop 1).map V.str))) sp = some (.lst ((w.drop 1).map V.str)):=upd_same
    generalize upd H sp (.lst ((w.drop 1).map V.str)) = H1 at S1 hsp1
    have hmin:min (w.map V.str).length ((w.drop 1).map V.str).length = w.length - 1:=by simp only [List.length_map,List.length_drop];omega
    refine ⟨b,sp,_,_,rfl,S1.seq hB,SqL.of hsp1,(let I'1:Nat→List V→Hp→Prop:=fun i ys H2=>Same H1 H2∧i≤w.length - 1∧∃ ms:List Int,ys = ms.map V.int∧ms.length = i∧∀ j,j < i→∃ x y,w[j]? = some x∧w[j + 1]? = some y∧ms[j]? = some (rc g x y);comp_inv (w.length - 1) I'1 ⟨Same.refl _,Nat.zero_le _,[],rfl,rfl,fun j hj=>absurd hj (by omega)⟩ (fun i ys H2 pv=>?_) (fun i ys H2 hi pv=>?_) (fun ys H2 pv=>?_))⟩
    · obtain ⟨_,h1,ms,rfl,hl,_⟩:=pv
      rw [List.length_map];exact szl (by omega)
    · obtain ⟨S2,_,ms,rfl,hl,hms⟩:=pv
      refine ⟨⟨(S1.trans S2).seq hB,SqL.of (S2 _ _ hsp1),by rw [hmin];exact hi⟩,?_⟩
      rintro v H3 ⟨pp,x,y,hpp,rfl,hx,hy,rfl⟩
      rw [List.getElem?_map] at hx hy
      rw [List.getElem?_drop] at hy
      cases hx':w[i]? with
      | none=>rw [hx'] at hx;cases hx
      | some x' =>
      rw [hx'] at hx
      cases hx
      cases hy':w[1 + i]? with
      | none=>rw [hy'] at hy;cases hy
      | some y' =>
      rw [hy'] at hy
      cases hy
      have hy'':w[i + 1]? = some y':=by rw [Nat.add_comm];exact hy'
      obtain ⟨k1,k2⟩:=hkey i x' y' hx' hy''
      obtain ⟨u,hu'⟩:=Option.isSome_iff_exists.mp k2
      obtain ⟨b1,hb1⟩:=addrOf_some k1
      have S3:=S2.trans (Same.updN (o:=.tup [V.str x',V.str y']) hpp)
      have hN3:=hN.sm (S1.trans S3).sm
      refine ⟨pp,_,rfl,SqT.of upd_same,rfl,_,_,rfl,_,_,rfl,rfl,yesI ?_⟩
      refine ⟨_,rfl,_,rfl,a,_,rfl,hN3.dget hb1,_,rfl,b1,_,rfl,hN3.rget' hb1 hu',nxC hi ⟨S3,by omega,ms ++ [u],by rw [List.map_append];rfl,by simp [hl],fun j hj=>?_⟩⟩
      by_cases hji:j < i
      · obtain ⟨x,y,h1,h2,h3⟩:=hms j hji
        exact ⟨x,y,h1,h2,by rw [List.getElem?_append_left (by omega)];exact h3⟩
      · have:j = i:=by omega
        subst this
        refine ⟨x',y',hx',hy'',?_⟩
        rw [List.getElem?_append_right (by omega),hl,Nat.sub_self]
        unfold rc
        rw [hu'];rfl
    · obtain ⟨S2,_,ms,rfl,hl,hms⟩:=pv
      refine ⟨⟨(S1.trans S2).seq hB,SqL.of (S2 _ _ hsp1),hmin.symm⟩,fun lp hlp=>⟨lp,ms,rfl,SqL.of upd_same,fun e=>by rw [e] at hl;simp at hl;omega,fun m hm hle=>q m _ ((S1.trans S2).trans (Same.updN hlp)) (fun i x y hx hy=>?_) ?_⟩⟩
      · have hi:i < w.length - 1:=by have:=(List.getElem?_eq_some_iff.mp hy).1;omega
        obtain ⟨x',y',h1,h2,h3⟩:=hms i hi
        rw [hx] at h1
        rw [hy] at h2
        cases h1
        cases h2
        exact hle _ (List.mem_of_getElem? h3)
      · obtain ⟨j,hj⟩:=List.getElem?_of_mem hm
        have hjl:j < w.length - 1:=by have:=(List.getElem?_eq_some_iff.mp hj).1;omega
        obtain ⟨x',y',h1,h2,h3⟩:=hms j hjl
        rw [hj] at h3
        exact ⟨j,x',y',h1,h2,Option.some.inj h3⟩
inductive Sp_room  (vs:List V) (H:Hp) (Q:VK):Prop
  | mk (a:Addr) (bs:Outer) (f:Str→L2.Row):(vs = [.ref a])→(NetAt H a bs f)→(RowsIn (bs.map (·.1)) f)→(bs.length≤12)→(∀ p H' g,NS0 H p (bs.map (·.1)) g H'→RoomOf (bs.map (·.1)) f g→Q (.ref p) H')→Sp_room  vs H Q
def sp_room :Sp:=fun vs H Q _=>Sp_room  vs H Q
theorem ok_room_on (T:Txt K mg t):FnOk P w K mg base CX0 1 t.room_on t.fd_room_on ["arcs"] sp_room:=by
  refine T.f_room_on.fn.ok sc_room_on (fun vs H Q E h=>?_) (fun cdv A outer s H vs Q E hr h=>?_)
  · obtain ⟨a,bs,f,rfl,_⟩:=h;rfl
  · obtain ⟨a,bs,f,rfl,hN,hg,hlen,q⟩:=h
    have hu:=hu_of hr
    refine ltX ?_
    intro X' D'
    refine ⟨_,(pss_consL (ps_set (i:=1) sc_room_on.nd rfl (Or.inl rfl) pe_dnewK)
      (pss_consL (ps_forD PassesOwn.never rfl (pv 0) (pg_name (i:=2) sc_room_on.nd rfl (Or.inl rfl))
        (pss_one (ps_dput hu (pv 1) (pv 2) (pe_callTy call_dictOf (by rfl) T.b_dict boot_ty_dict (pa_cons (pe_dget hu (pv 0) (pv 2) (fun _ _=>rfl)) pa_nil)) rfl)))
      (pss_consL (ps_forD PassesOwn.never rfl (pv 0) (pg_name (i:=2) sc_room_on.nd rfl (Or.inl rfl))
        (pss_one (ps_forD PassesOwn.never rfl (pe_dget hu (pv 0) (pv 2) (fun _ _=>rfl)) (pg_name (i:=3) sc_room_on.nd rfl (Or.inl rfl))
        (pss_one (ps_expr (pe_dsetd (pe_dget hu (pv 1) (pv 3) (fun _ _=>rfl)) (pv 2) pe_int ⟨rfl,rfl,rfl,rfl⟩))))))
      (pss_one (ps_ret (pv 1)))))),?_⟩
    extract_lets +lift
    intro p hp
    have pa:a≠p:=ne_of_none hN.out hp
    have S0:=Same.updN (o:=.dK []) hp
    have hN1:=hN.same S0
    refine ⟨_,rfl,a,_,rfl,.inl hN1.out,fun o H2 fz=>(let I'2:Nat→L2.St→Hp→Prop:=fun i σ H3=>∃ x2 cs,σ = [some (.ref a),some (.ref p),x2,none]∧(∀ b u,b≠a→H b = some u→H3 b = some u)∧H3 a = some (.frz o (.dK (encO bs)))∧NetAt H3 p cs f∧cs.map (·.1) = (bs.map (·.1)).take i∧New H p cs;forDm hN1.out fz I'2 (fun e=>?_) (fun _ _ _ h=>?_) (fun i k v σ H3 hk pv=>?_) (fun σ H3 pv=>?_))⟩
    · subst e
      refine ⟨_,[],rfl,fun b u hb e=>by rw [upd_ne hb];exact S0 _ _ e,upd_same,⟨by rw [upd_ne (Ne.symm pa),upd_same];rfl,fun _ h=>absurd h (by simp),List.nodup_nil,by simp⟩,rfl,hp,fun _ h=>absurd h (by simp)⟩
    · obtain ⟨_,_,_,_,h,_⟩:=h;exact h
    · obtain ⟨x2,cs,rfl,hrest,ha,hC,hcs,hnew⟩:=pv
      unfold encO at hk
      rw [List.getElem?_map] at hk
      cases hb:bs[i]? with
      | none=>rw [hb] at hk;cases hk
      | some z =>
      rw [hb] at hk
      cases hk
      have hz:z∈bs:=List.mem_of_getElem? hb
      have had:=mem_addrOf hN.ks (x:=z.1) (b:=z.2) hz
      have hza:z.2≠a:=hN.ne had
      have hrow:=hrest _ _ hza (hN.inn z hz)
      have hfresh:z.1∉cs.map (·.1):=by rw [hcs];exact nodup_take hN.ks (by rw [List.getElem?_map,hb];rfl)
      have hcl:cs.length≤12:=by
        have:=congrArg List.length hcs
        rw [List.length_map,List.length_take,List.length_map] at this
        omega
      refine ⟨_,rfl,_,rfl,a,.ref z.2,rfl,.inl ⟨encO bs,Sum.inr z.1,.inr ⟨o,ha⟩,rfl,by rw [valV_encO,had];rfl⟩,z.2,_,rfl,.inl hrow,fun r2 hr2=>?_⟩
      obtain ⟨d1,d2⟩:=hC.add2 (x:=z.1) hfresh hr2 (szl (by omega))
      have r2a:r2≠a:=fun e=>by rw [e,ha] at hr2;cases hr2
      refine ⟨_,rfl,_,rfl,p,_,rfl,d1,_,cs ++ [(z.1,r2)],rfl,fun b u hba e=>?_,?_,d2,?_,hnew.1,fun y hy=>?_⟩
      · have e3:=hrest b u hba e
        rw [upd_ne (ne_of_none e hp),upd_ne (ne_of_none e3 hr2)];exact e3
      · rw [upd_ne pa,upd_ne (Ne.symm r2a)];exact ha
      · rw [List.map_append,hcs,List.take_add_one,List.getElem?_map,hb];rfl
      · rcases List.mem_append.mp hy with c | c
        · exact hnew.2 y c
        · rw [List.mem_singleton.mp c]
          cases hh:H r2 with
          | none=>rfl
          | some u=>rw [hrest r2 u r2a hh] at hr2;cases hr2
    · obtain ⟨x2,cs,rfl,hrest,ha,hC,hcs,hnew⟩:=pv
      have el:(encO bs).length = (bs.map (·.1)).length:=by unfold encO;simp
      rw [el,List.take_of_length_le (Nat.le_refl _)] at hcs
      have hS:Same H (upd H3 a (.dK (encO bs))):=fun b u e=>by
        by_cases hb:b = a
        · subst hb
          rw [upd_same];rw [hN.out] at e;exact e
        · rw [upd_ne hb];exact hrest b u hb e
      have hcsa:∀ z∈cs,z.2≠a:=fun z hz e=>by have:=hnew.2 z hz;rw [e,hN.out] at this;cases this
      have hC4:NetAt (upd H3 a (.dK (encO bs))) p cs f:=hC.updo (Ne.symm pa) hcsa
      generalize upd H3 a (.dK (encO bs)) = H4 at hS hC4
      clear hC ha hrest fz
      have hN4:=hN.same hS
      have hnd:=hN.ks
      have hcl:cs.length≤12:=by
        have:=congrArg List.length hcs
        rw [List.length_map,List.length_map] at this
        omega
      generalize hks:bs.map (·.1) = ks at hg hcs q hnd
      have hkl:ks.length≤12:=by rw [← hks,List.length_map];exact hlen
      have rinit:RoomI ks f f 0:=RoomI.zero hg
      refine ⟨_,rfl,a,_,rfl,.inl hN4.out,fun o H5 fz=>(let I'3:Nat→L2.St→Hp→Prop:=fun i σ H6=>∃ x2 x3 g,σ = [some (.ref a),some (.ref p),x2,x3]∧(∀ b u,b≠a→H b = some u→H6 b = some u)∧H6 a = some (.frz o (.dK (encO bs)))∧NetAt H6 p cs g∧RoomI ks f g i;forDm hN4.out fz I'3 (fun e=>?_) (fun _ _ _ h=>?_) (fun i k v σ H6 hk pv=>?_) (fun σ H6 pv=>?_))⟩
      · subst e
        exact ⟨_,_,f,rfl,fun b u hb e=>by rw [upd_ne hb];exact hS _ _ e,upd_same,hC4.updo (Ne.symm pa) hcsa,rinit⟩
      · obtain ⟨_,_,_,_,_,h,_⟩:=h;exact h
      · obtain ⟨x2,x3,g,rfl,hrest,ha,hC,hri⟩:=pv
        unfold encO at hk
        rw [List.getElem?_map] at hk
        cases hb:bs[i]? with
        | none=>rw [hb] at hk;cases hk
        | some z =>
        rw [hb] at hk
        cases hk
        have hz:z∈bs:=List.mem_of_getElem? hb
        have had:=mem_addrOf hN.ks (x:=z.1) (b:=z.2) hz
        have hza:z.2≠a:=hN.ne had
        have hrow:=hrest _ _ hza (hN.inn z hz)
        have hki:ks[i]? = some z.1:=by rw [← hks,List.getElem?_map,hb];rfl
        have hzp:z.2≠p:=fun e=>by have:=hN.inn z hz;rw [e,hp] at this;cases this
        have hzc:∀ y∈cs,y.2≠z.2:=fun y hy e=>by have:=hnew.2 y hy;rw [e,hN.inn z hz] at this;cases this
        have hzm:z.1∈ks:=by rw [← hks];exact List.mem_map.mpr ⟨z,hz,rfl⟩
        refine ⟨_,rfl,_,rfl,a,.ref z.2,rfl,.inl ⟨encO bs,Sum.inr z.1,.inr ⟨o,ha⟩,rfl,by rw [valV_encO,had];rfl⟩,z.2,_,rfl,.inl hrow,fun o2 H7 fz2=>(let I'4:Nat→L2.St→Hp→Prop:=fun j σ H8=>∃ x3 g,σ = [some (.ref a),some (.ref p),some (.str z.1),x3]∧(∀ b u,b≠a→b≠z.2→H b = some u→H8 b = some u)∧H8 a = some (.frz o (.dK (encO bs)))∧H8 z.2 = some (.frz o2 (.dK (encI (f z.1))))∧NetAt H8 p cs g∧RoomJ ks f g i z.1 j;forDm hrow fz2 I'4 (fun e=>?_) (fun _ _ _ h=>?_) (fun j k v σ H8 hk2 pv=>?_) (fun σ H8 pv=>?_))⟩
        · subst e
          exact ⟨_,g,rfl,fun b u hb1 hb2 e=>by rw [upd_ne hb2];exact hrest b u hb1 e,by rw [upd_ne (Ne.symm hza)];exact ha,upd_same,hC.updo (Ne.symm hzp) hzc,RoomJ.zero hri⟩
        · obtain ⟨_,_,_,_,_,h,_⟩:=h;exact h
        · obtain ⟨x3,g',rfl,hrest8,ha8,hz8,hC8,hrj⟩:=pv
          have hk3:∃ e,(f z.1)[j]? = some e∧k = Sum.inr e.1:=by
            unfold encI at hk2
            rw [List.getElem?_map] at hk2
            cases he:(f z.1)[j]? with
            | none=>rw [he] at hk2;cases hk2
            | some e=>rw [he] at hk2;cases hk2;exact ⟨e,rfl,rfl⟩
          obtain ⟨e,he,rfl⟩:=hk3
          have hek:e.1∈(f z.1).map (·.1):=List.mem_map.mpr ⟨e,List.mem_of_getElem? he,rfl⟩
          have hem:e.1∈ks:=hg.inn z.1 hzm e.1 hek
          obtain ⟨b2,hb2⟩:=addrOf_some (bs:=cs) (x:=e.1) (by rw [hcs];exact hem)
          have hb2m:=addrOf_mem hb2
          have hl8:(g' e.1).length≤12:=Nat.le_trans (hrj.rows.len hem) hkl
          refine ⟨_,rfl,_,rfl,p,_,rfl,hC8.r.dget hb2,b2,rfl,.inl ⟨_,hC8.r.inn _ hb2m⟩,_,rfl,encI (g' e.1),Sum.inr z.1,hC8.inn _ hb2m,rfl,(by rw [encI_len];exact szl (by omega)),fun _=>?_⟩
          rw [encI_def]
          refine ⟨_,_,rfl,fun b u h1 h2 e0=>?_,?_,?_,hC8.defr hb2 z.1,hrj.succ he hzm hem⟩
          · rw [upd_ne (ne_of_none e0 (hnew.2 _ hb2m))];exact hrest8 b u h1 h2 e0
          · rw [upd_ne (Ne.symm (hcsa _ hb2m))];exact ha8
          · rw [upd_ne (Ne.symm (hzc _ hb2m))];exact hz8
        · obtain ⟨x3,g',rfl,hrest8,ha8,hz8,hC8,hrj⟩:=pv
          rw [encI_len] at hrj
          refine ⟨_,_,g',rfl,fun b u h1 e0=>?_,?_,hC8.updo (Ne.symm hzp) hzc,hrj.last hki hnd⟩
          · by_cases h2:b = z.2
            · subst h2
              rw [upd_same]
              rw [hN.inn z hz] at e0;exact e0
            · rw [upd_ne h2];exact hrest8 b u h1 h2 e0
          · rw [upd_ne (Ne.symm hza)];exact ha8
      · obtain ⟨x2,x3,g,rfl,hrest,ha,hC,hri⟩:=pv
        have el:(encO bs).length = ks.length:=by rw [← hks];unfold encO;simp
        rw [el] at hri
        refine ⟨_,rfl,q p _ g ⟨cs,fun b u e=>?_,hC.updo (Ne.symm pa) hcsa,hcs,hnew⟩ hri.done⟩
        by_cases hb:b = a
        · subst hb
          rw [upd_same];rw [hN.out] at e;exact e
        · rw [upd_ne hb];exact hrest b u hb e
end
end K15
namespace K15
open PySem L2 PySem.Spec PyProof.Rows
section
variable {P:Program} {w:World} {K:PySem.W.Frag} {mg:Str→Option Value} {base:Heap} {t:Adr}
inductive Sp_pushed (K:PySem.W.Frag) (vs:List V) (H:Hp) (Q:VK):Prop
  | mk (a b c:Addr) (bs:Outer) (f:Str→L2.Row) (os ts:List Str):(vs = [.ref a,.ref b,.ref c])→(NetAt H a bs f)→(RowsIn (bs.map (·.1)) f)→((∀ x∈bs.map (·.1),∀ y∈bs.map (·.1),0≤rc f x y))→(bs.length≤12)→(SqL K H b (os.map V.str))→(os.Nodup)→((∀ x∈os,x∈bs.map (·.1)))→(SqL K H c (ts.map V.str))→((∀ x∈os,x∉ts))→(∀ p rp H' amount cs g,Same H H'→H p = none→H' p = some (.tup [.int amount,.ref rp])→NetAt H' rp cs g→cs.map (·.1) = bs.map (·.1)→New H rp cs→RowsIn (bs.map (·.1)) g→(∀ x∈bs.map (·.1),∀ y∈bs.map (·.1),(look (f x) y).isSome = true→(look (g x) y).isSome = true)→Flow (bs.map (·.1)) (rc f) (inB os) (inB ts) (rc g) amount→(∃ L,Bfs (bs.map (·.1)) (rc g) os L∧Done (bs.map (·.1)) (rc g) L L.length∧∀ x∈ts,x∉L.map (·.1))→(∃ n,(rc g,amount) = itN (stepP (bs.map (·.1)) os ts) n (rc f,0)∧shortF (bs.map (·.1)) (rc g) os ts = [])→(∀ one,os = [one]→∀ x,rc f x one≤rc g x one)→Q (.ref p) H')→Sp_pushed K vs H Q
def sp_pushed (K:PySem.W.Frag):Sp:=fun vs H Q _=>Sp_pushed K vs H Q
theorem ok_pushed_through (T:Txt K mg t):FnOk P w K mg base CX0 3 t.pushed_through t.fd_pushed_through ["arcs","ones","others"] (sp_pushed K):=by
  refine T.f_pushed_through.fn.ok sc_pushed_through (fun vs H Q E h=>?_) (fun cdv A outer s H vs Q E hr h=>?_)
  · obtain ⟨a,b,c,bs,f,os,ts,rfl,_⟩:=h;rfl
  · obtain ⟨a,b,c,bs,f,os,ts,rfl,hN,hg,hnn,hlen,hB,hnd,hos,hC,hdj,q⟩:=h
    have hu:=hu_of hr
    have hkn:=hN.ks
    refine ltX ?_
    intro X' D'
    refine ⟨_,(pss_consL (ps_set (i:=3) sc_pushed_through.nd rfl (Or.inl rfl) (pe_call (ok_room_on T) (hr.mono (by decide)) rfl T.f_room_on.mg T.f_room_on.kp T.f_room_on.bd .nil pass0 (pa_cons (pv 0) pa_nil)))
      (pss_consL (ps_set (i:=4) sc_pushed_through.nd rfl (Or.inl rfl) pe_int)
      (pss_consL (ps_set (i:=5) sc_pushed_through.nd rfl (Or.inl rfl) (pe_call (ok_shortest_way T) (hr.mono (by decide)) rfl T.f_shortest_way.mg T.f_shortest_way.kp T.f_shortest_way.bd .nil pass0 (pa_cons (pv 3) (pa_cons (pv 1) (pa_cons (pv 2) pa_nil)))))
      (pss_consL (ps_whileL PassesOwn.never (pt_truth (pv 5) (by intro _;rfl))
        (pss_consL (ps_set (i:=6) sc_pushed_through.nd rfl (Or.inl rfl) (pe_call (ok_least_along T) (hr.mono (by decide)) rfl T.f_least_along.mg T.f_least_along.kp T.f_least_along.bd .nil pass0 (pa_cons (pv 3) (pa_cons (pv 5) pa_nil))))
      (pss_consL (ps_forL PassesOwn.never rfl (pi_zip rfl T.b_zip (pa_cons (pv 5) (pa_cons (pe_slice sl_list (pv 5) (po_some pe_int) po_none) pa_nil))) (pg_tup rfl (pgs_cons (pg_name (i:=7) sc_pushed_through.nd rfl (Or.inl rfl)) (pgs_cons (pg_name (i:=8) sc_pushed_through.nd rfl (Or.inl rfl)) pgs_nil)))
        (pss_consL (ps_daug hu (pe_dget hu (pv 3) (pv 7) (fun _ _=>rfl)) (pv 8) (pv 6) in_sub (by intros;rfl))
      (pss_one (ps_daug hu (pe_dget hu (pv 3) (pv 8) (fun _ _=>rfl)) (pv 7) (pv 6) in_add (by intros;rfl)))))
      (pss_consL (ps_aug (i:=4) sc_pushed_through.nd rfl (Or.inl rfl) (pv 6) ip_add)
      (pss_one (ps_set (i:=5) sc_pushed_through.nd rfl (Or.inl rfl) (pe_call (ok_shortest_way T) (hr.mono (by decide)) rfl T.f_shortest_way.mg T.f_shortest_way.kp T.f_shortest_way.bd .nil pass0 (pa_cons (pv 3) (pa_cons (pv 1) (pa_cons (pv 2) pa_nil))))))))))
      (pss_one (ps_ret (pe_tup (pa_cons (pv 4) (pa_cons (pv 3) pa_nil))))))))),?_⟩
    extract_lets +lift
    refine ⟨_,rfl,a,bs,f,rfl,hN,hg,hlen,fun rp H1 g0 hNS hroom=>?_⟩
    obtain ⟨cs,S1,hR1,hcs,hnew⟩:=hNS
    generalize hks:bs.map (·.1) = ks at hg hnn hos q hcs hroom hkn
    have hkl:ks.length≤12:=by rw [← hks,List.length_map];exact hlen
    have hcl:cs.length≤12:=by
      have:=congrArg List.length hcs
      rw [List.length_map] at this;omega
    have dj:∀ x∈ks,inB os x = true→inB ts x = false:=fun x _ h=>by
      have h:x∈os:=by simpa [inB] using h
      simpa [inB] using hdj x h
    have sone:Side ks (inB os) (inB ts) (inB os):=⟨fun x _ h=>h,fun x hx h=>by
      cases z:inB os x with
      | false=>rfl
      | true=>rw [dj x hx z] at h;cases h⟩
    have fl0:Flow ks (rc f) (inB os) (inB ts) (rc g0) 0:=(Flow.start hnn).congr fun x _ y _=>hroom.same x y
    have sym0:∀ x∈ks,∀ y∈ks,(look (g0 x) y).isSome = (look (g0 y) x).isSome:=fun x hx y hy=>by rw [hroom.keys x hx y hy,hroom.keys y hy x hx,Bool.or_comm]
    have sup0:∀ x∈ks,∀ y∈ks,(look (f x) y).isSome = true→(look (g0 x) y).isSome = true:=fun x hx y hy h=>by rw [hroom.keys x hx y hy,h];rfl
    refine ⟨_,rfl,_,rfl,_,rfl,rp,b,c,cs,g0,os,ts,rfl,hR1.r,by rw [hcs];exact hroom.rows,hcl,S1.seq hB,hnd,by rw [hcs];exact hos,S1.seq hC,fun wp H2 w0 S2 hwp hW2 hsh0 hwf0=>?_⟩
    rw [hcs] at hsh0 hwf0
    have ev0:∃ n,(rc g0,(0:Int)) = itN (stepP ks os ts) n (rc f,0):=⟨0,by rw [show rc g0 = rc f from funext fun x=>funext fun y=>hroom.same x y];rfl⟩
    generalize hBd:leave ks (rc f) (inB os) = Bd
    let W'1:Nat→L2.St→Hp→Prop:=fun m σ H3=>∃ amount wp w g x6 x7 x8,m = (Bd - amount).toNat∧σ = [some (.ref a),some (.ref b),some (.ref c),some (.ref rp),some (.int amount),some (.ref wp),x6,x7,x8]∧Same H H3∧NetAt H3 rp cs g∧RowsIn ks g∧(∀ x∈ks,∀ y∈ks,(look (g x) y).isSome = (look (g y) x).isSome)∧(∀ x∈ks,∀ y∈ks,(look (f x) y).isSome = true→(look (g x) y).isSome = true)∧Flow ks (rc f) (inB os) (inB ts) (rc g) amount∧H3 wp = some (.lst (w.map V.str))∧ShortW ks (rc g) os ts w∧w = shortF ks (rc g) os ts∧(∀ one,os = [one]→∀ x,rc f x one≤rc g x one)∧∃ n,(rc g,amount) = itN (stepP ks os ts) n (rc f,0)
    refine ⟨W'1,⟨_,0,wp,w0,g0,_,_,_,rfl,rfl,S1.trans S2,hR1.same S2,hroom.rows,sym0,sup0,fl0,hW2,hsh0,hwf0,(fun one _ x=>Int.le_of_eq (hroom.same x one).symm),ev0⟩,fun m σ H3 pv=>?_⟩
    clear hsh0 hwf0 ev0 hW2 hwp S2 sym0 sup0 fl0 hroom hR1 S1
    obtain ⟨amount,wp,w,g,x6,x7,x8,rfl,rfl,S3,hR3,hrow,hsym,hsup,fl,hW3,hsh,hwf,hbk,n,hev⟩:=pv
    refine ⟨_,rfl,_,.inl ⟨_,SqL.of hW3,rfl⟩,?_⟩
    rcases hsh with ⟨rfl,L,hb,hd,hno⟩ | ⟨k,x0,xk,hx0,hxk,hwl,ho,ht,hwn,hwm,hwr⟩
    · refine iteF ⟨_,rfl,_,rfl,(by show 2≤sizeLine;decide),fun tp htp=>q tp rp _ amount cs g (S3.trans (Same.updN htp)) (S3.free htp) upd_same (hR3.same (Same.updN htp)) hcs hnew hrow hsup fl ⟨L,hb,hd,hno⟩ ⟨n,hev,hwf.symm⟩ hbk⟩
    · have hk1:1≤k:=by
        rcases Nat.eq_zero_or_pos k with z | z
        · subst z
          rw [hx0] at hxk
          cases hxk
          exact absurd ht (hdj x0 ho)
        · exact z
      have hw12:w.length≤12:=Nat.le_trans (nd_len hwn hwm) hkl
      have hne:(!(w.map V.str).isEmpty) = true:=by
        cases w with
        | nil=>simp at hx0
        | cons _ _=>rfl
      rw [hne]
      let W'2:L2.St→Hp→Prop:=fun σ' H'=>∃ m',m' < (Bd - amount).toNat∧∃ amount wp w g x6 x7 x8,m' = (Bd - amount).toNat∧σ' = [some (.ref a),some (.ref b),some (.ref c),some (.ref rp),some (.int amount),some (.ref wp),x6,x7,x8]∧Same H H'∧NetAt H' rp cs g∧RowsIn ks g∧(∀ x∈ks,∀ y∈ks,(look (g x) y).isSome = (look (g y) x).isSome)∧(∀ x∈ks,∀ y∈ks,(look (f x) y).isSome = true→(look (g x) y).isSome = true)∧Flow ks (rc f) (inB os) (inB ts) (rc g) amount∧H' wp = some (.lst (w.map V.str))∧ShortW ks (rc g) os ts w∧w = shortF ks (rc g) os ts∧(∀ one,os = [one]→∀ x,rc f x one≤rc g x one)∧∃ n,(rc g,amount) = itN (stepP ks os ts) n (rc f,0)
      refine iteT ⟨W'2,fun _ _ h=>h,?_⟩
      have pos_some:∀ x y,0 < rc g x y→(look (g x) y).isSome = true:=fun x y h=>by
        unfold rc at h
        cases z:look (g x) y with
        | none=>rw [z] at h;simp at h
        | some v=>rfl
      refine ⟨_,rfl,_,rfl,rp,wp,cs,g,w,rfl,hR3.r,SqL.of hW3,by omega,hw12,(fun i x y hx hy=>⟨by rw [hcs];exact hwm x (List.mem_of_getElem? hx),pos_some x y (hwr i x y hx hy)⟩),fun many H4 S4 hle hex=>?_⟩
      have hm1:1≤many:=by
        obtain ⟨i,x,y,h1,h2,rfl⟩:=hex
        have:=hwr i x y h1 h2
        omega
      have way:WayOk ks (rc g) many w:=⟨hwm,hwn,hle⟩
      have hlf:many = leastF (rc g) w:=by
        obtain ⟨i,x,y,h1,h2,e⟩:=hex
        refine leastF_eq (steps_mem.mpr ⟨i,x,y,h1,h2,e⟩) fun n hn=>?_
        obtain ⟨i,x,y,h1,h2,rfl⟩:=steps_mem.mp hn
        exact hle i x y h1 h2
      have hstp:stepP ks os ts (rc g,amount) = (pushN (rc g) many w k,amount + many):=by
        unfold stepP
        show (match shortF ks (rc g) os ts with | []=>_ | x :: w=>_) = _
        rw [← hwf,hlf]
        cases w with
        | nil=>simp at hx0
        | cons z w =>
          have:w.length = k:=by simpa using hwl
          rw [← this]
      have hW4:=S4 _ _ hW3
      have hR4:=hR3.same S4
      have T4:=S3.trans S4
      refine ⟨_,rfl,_,rfl,_,rfl,wp,_,rfl,SqL.of hW4,fun sp hsp=>?_⟩
      have hcut:cutV (w.map V.str) (some 1) none = (w.drop 1).map V.str:=by
        unfold cutV
        rw [HT.sIx_none,sIx_of (by decide),List.length_map,← List.map_drop,← List.map_take]
        congr 1
        have:min (1:Int).toNat w.length = 1:=by show min 1 w.length = 1;omega
        rw [this]
        exact List.take_of_length_le (by rw [List.length_drop];omega)
      rw [hcut]
      have S5:=Same.updN (o:=.lst ((w.drop 1).map V.str)) hsp
      have hsp5:(upd H4 sp (.lst ((w.drop 1).map V.str))) sp = some (.lst ((w.drop 1).map V.str)):=upd_same
      generalize upd H4 sp (.lst ((w.drop 1).map V.str)) = H5 at S5 hsp5
      have hW5:=S5 _ _ hW4
      have hR5:=hR4.same S5
      have T5:=T4.trans S5
      have hmin:min (w.map V.str).length ((w.drop 1).map V.str).length = k:=by simp only [List.length_map,List.length_drop];omega
      refine ⟨wp,sp,_,_,rfl,SqL.of hW5,SqL.of hsp5,(let I'1:Nat→L2.St→Hp→Prop:=fun i σ H6=>∃ x7 x8 gi,σ = [some (.ref a),some (.ref b),some (.ref c),some (.ref rp),some (.int amount),some (.ref wp),some (.int many),x7,x8]∧Same H H6∧H6 wp = some (.lst (w.map V.str))∧H6 sp = some (.lst ((w.drop 1).map V.str))∧NetAt H6 rp cs gi∧RowsIn ks gi∧(∀ x y,(look (gi x) y).isSome = (look (g x) y).isSome)∧∀ x y,rc gi x y = pushN (rc g) many w i x y;for_zip (K:=K) I'1 ⟨_,_,g,rfl,T5,hW5,hsp5,hR5,hrow,fun _ _=>rfl,fun _ _=>rfl⟩ (fun i σ H6 _ pv=>?_) (fun i x y pp σ H6 hx hy pv hpp=>?_) (fun σ H6 pv=>?_))⟩
      · obtain ⟨_,_,_,rfl,_,h1,h2,_⟩:=pv
        exact ⟨SqL.of h1,SqL.of h2⟩
      · obtain ⟨x7,x8,gi,rfl,S6,hW6,hsp6,hR6,hrow6,hk6,hrc6⟩:=pv
        rw [List.getElem?_map] at hx hy
        rw [List.getElem?_drop] at hy
        cases hx':w[i]? with
        | none=>rw [hx'] at hx;cases hx
        | some x' =>
        rw [hx'] at hx
        cases hx
        cases hy':w[1 + i]? with
        | none=>rw [hy'] at hy;cases hy
        | some y' =>
        rw [hy'] at hy
        cases hy
        have hy'':w[i + 1]? = some y':=by rw [Nat.add_comm];exact hy'
        have mx:=hwm x' (List.mem_of_getElem? hx')
        have my:=hwm y' (List.mem_of_getElem? hy'')
        have hxy:x'≠y':=fun e=>by
          subst e
          have:=nd_ix hwn hx' hy''
          omega
        obtain ⟨b1,hb1⟩:=addrOf_some (bs:=cs) (x:=x') (by rw [hcs];exact mx)
        obtain ⟨b2,hb2⟩:=addrOf_some (bs:=cs) (x:=y') (by rw [hcs];exact my)
        have s1:(look (gi x') y').isSome = true:=by rw [hk6];exact pos_some _ _ (hwr i x' y' hx' hy'')
        have s2:(look (gi y') x').isSome = true:=by rw [hk6,← hsym x' mx y' my];exact pos_some _ _ (hwr i x' y' hx' hy'')
        obtain ⟨v1,hv1⟩:=Option.isSome_iff_exists.mp s1
        obtain ⟨v2,hv2⟩:=Option.isSome_iff_exists.mp s2
        have S7:=Same.updN (o:=.tup [V.str x',V.str y']) hpp
        have hR7:=hR6.same S7
        have T7:=S6.trans S7
        have hW7:=S7 _ _ hW6
        have hsp7:=S7 _ _ hsp6
        refine ⟨pp,_,rfl,SqT.of upd_same,rfl,_,_,rfl,_,_,rfl,rfl,?_⟩
        generalize upd H6 pp (.tup [V.str x',V.str y']) = H7 at S7 hR7 T7 hW7 hsp7
        have rl:∀ z,z∈ks→(gi z).length < sizeLine:=fun z hz=>szl (by have:=hrow6.len hz;omega)
        obtain ⟨p1,p2⟩:=hR7.put hb1 (v1 - many) y' (rl _ mx)
        refine ⟨_,rfl,_,rfl,rp,_,rfl,hR7.r.dget hb1,_,rfl,b1,_,rfl,hR7.r.rget' hb1 hv1,_,rfl,_,_,rfl,rfl,_,p1,?_⟩
        have hv2':look (putR gi x' y' (v1 - many) y') x' = some v2:=by rw [putR_ne (Ne.symm hxy)];exact hv2
        obtain ⟨p3,p4⟩:=p2.put hb2 (v2 + many) x' (by rw [putR_ne (Ne.symm hxy)];exact rl _ my)
        refine ⟨_,rfl,_,rfl,rp,_,rfl,p2.r.dget hb2,_,rfl,b2,_,rfl,p2.r.rget' hb2 hv2',_,rfl,_,_,rfl,rfl,_,p3,?_⟩
        have hlist:∀ {q:Addr} {zs:List V} {bb:Addr} {l:List (Key×V)} {Hx:Hp},Hx q = some (.lst zs)→Hx bb = some (.dK l)→q≠bb:=fun h1 h2=>ne_of h1 h2 (by intro z;cases z)
        have n1:=hR7.inn _ (addrOf_mem hb1)
        have n2:=hR7.inn _ (addrOf_mem hb2)
        refine ⟨_,_,putR (putR gi x' y' (v1 - many)) y' x' (v2 + many),rfl,Same.netput (Same.netput T7 hnew hb1) hnew hb2,?_,?_,p4,(hrow6.putR mx my).putR my mx,fun aa bb=>?_,fun aa bb=>?_⟩
        · rw [upd_ne (hlist hW7 n2),upd_ne (hlist hW7 n1)];exact hW7
        · rw [upd_ne (hlist hsp7 n2),upd_ne (hlist hsp7 n1)];exact hsp7
        · rw [some_putR (by rw [hv2'];rfl),some_putR s1];exact hk6 aa bb
        · have e1:rc gi x' y' = v1:=by unfold rc;rw [hv1];rfl
          have e2:rc gi y' x' = v2:=by unfold rc;rw [hv2];rfl
          rw [pushN_succ hx' hy'',rc_putR,rc_putR]
          unfold pushF
          rw [← hrc6 aa bb]
          by_cases z1:aa = y'∧bb = x'
          · have z2:¬ (aa = x'∧bb = y'):=fun z=>hxy (z.1.symm.trans z1.1)
            rw [if_pos z1,if_neg z2,if_pos z1,z1.1,z1.2,e2]
          · rw [if_neg z1]
            by_cases z2:aa = x'∧bb = y'
            · rw [if_pos z2,if_pos z2,z2.1,z2.2,e1]
            · rw [if_neg z2,if_neg z2,if_neg z1]
      · obtain ⟨x7,x8,gi,rfl,S6,hW6,hsp6,hR6,hrow6,hk6,hrc6⟩:=pv
        rw [hmin] at hrc6
        have fl2:Flow ks (rc f) (inB os) (inB ts) (rc gi) (amount + many):=(fl.push hkn dj way (by omega) hx0 hxk (by simpa [inB] using ho) (by simpa [inB] using ht)).congr fun x _ y _=>hrc6 x y
        have hbd:=fl2.weak sone
        rw [hBd] at hbd
        refine ⟨_,rfl,_,rfl,_,_,rfl,rfl,?_⟩
        refine ⟨_,rfl,_,rfl,_,rfl,rp,b,c,cs,gi,os,ts,rfl,hR6.r,by rw [hcs];exact hrow6,hcl,S6.seq hB,hnd,by rw [hcs];exact hos,S6.seq hC,fun wp2 H8 w2 S8 hwp2 hW8 hsh2 hwf2=>?_⟩
        rw [hcs] at hsh2 hwf2
        have e3:rc gi = pushN (rc g) many w k:=funext fun x=>funext fun y=>hrc6 x y
        have hbk2:∀ one,os = [one]→∀ x,rc f x one≤rc gi x one:=fun one e x=>by
          have ex:x0 = one:=by rw [e] at ho;simpa using ho
          rw [e3,← ex]
          exact Int.le_trans (hbk x0 (by rw [ex];exact e) x) (pushN_back (by omega) hwn hx0 x k)
        exact ⟨(Bd - (amount + many)).toNat,by omega,amount + many,wp2,w2,gi,_,_,_,rfl,rfl,S6.trans S8,hR6.same S8,hrow6,(fun x hx y hy=>by rw [hk6,hk6];exact hsym x hx y hy),(fun x hx y hy h=>by rw [hk6];exact hsup x hx y hy h),fl2,hW8,hsh2,hwf2,hbk2,n + 1,by show _ = stepP ks os ts _;rw [← hev,hstp,e3]⟩
end
end K15
namespace K15
open PySem L2 PySem.Spec PyProof.Rows
section
variable {P:Program} {w:World} {K:PySem.W.Frag} {mg:Str→Option Value} {base:Heap} {t:Adr}
inductive Sp_flow  (vs:List V) (H:Hp) (Q:VK):Prop
  | mk (a b:Addr) (bs cs:Outer) (f g:Str→L2.Row):(vs = [.ref a,.ref b])→(NetAt H a bs f)→(NetR H b cs g)→(cs.map (·.1) = bs.map (·.1))→(RowsIn (bs.map (·.1)) f)→(bs.length≤12)→((∀ x∈bs.map (·.1),∀ y∈bs.map (·.1),(look (f x) y).isSome = true→(look (g x) y).isSome = true))→(∀ p H',NS0 H p (bs.map (·.1)) (phiR f (rc g)) H'→Q (.ref p) H')→Sp_flow  vs H Q
def sp_flow :Sp:=fun vs H Q _=>Sp_flow  vs H Q
theorem ok_flow_on (T:Txt K mg t):FnOk P w K mg base CX0 1 t.flow_on t.fd_flow_on ["net","room"] sp_flow:=by
  refine T.f_flow_on.fn.ok sc_flow_on (fun vs H Q E h=>?_) (fun cdv A outer s H vs Q E hr h=>?_)
  · obtain ⟨a,b,bs,cs,f,g,rfl,_⟩:=h;rfl
  · obtain ⟨a,b,bs,cs,f,g,rfl,hN,hM,hcs,hg,hlen,hsup,q⟩:=h
    have hu:=hu_of hr
    refine ltX ?_
    intro X' D'
    refine ⟨_,(pss_consL (ps_set (i:=2) sc_flow_on.nd rfl (Or.inl rfl) pe_dnewK)
      (pss_consL (ps_forD PassesOwn.never rfl (pv 0) (pg_name (i:=3) sc_flow_on.nd rfl (Or.inl rfl))
        (pss_consL (ps_dput hu (pv 2) (pv 3) pe_dnewK rfl)
      (pss_one (ps_forD PassesOwn.never rfl (pe_dget hu (pv 0) (pv 3) (fun _ _=>rfl)) (pg_name (i:=4) sc_flow_on.nd rfl (Or.inl rfl))
        (pss_one (ps_dput hu (pe_dget hu (pv 2) (pv 3) (fun _ _=>rfl)) (pv 4) (pe_callB (call_max2 rfl) (by rfl) T.b_max boot_max' (pa_cons pe_int (pa_cons (pe_op op_sub (pe_dget hu (pe_dget hu (pv 0) (pv 3) (fun _ _=>rfl)) (pv 4) (fun _ _=>rfl)) (pe_dget hu (pe_dget hu (pv 1) (pv 3) (fun _ _=>rfl)) (pv 4) (fun _ _=>rfl))) pa_nil))) rfl))))))
      (pss_one (ps_ret (pv 2))))),?_⟩
    extract_lets +lift
    intro p hp
    have pa:a≠p:=ne_of_none hN.out hp
    have S0:=Same.updN (o:=.dK []) hp
    have hN1:=hN.same S0
    have hnd:=hN.ks
    generalize hks:bs.map (·.1) = ks at hg hcs hsup q hnd
    have hkl:ks.length≤12:=by rw [← hks,List.length_map];exact hlen
    refine ⟨_,rfl,a,_,rfl,.inl hN1.out,fun o H2 fz=>(let I'1:Nat→L2.St→Hp→Prop:=fun i σ H3=>∃ x3 x4 fs g',σ = [some (.ref a),some (.ref b),some (.ref p),x3,x4]∧(∀ b u,b≠a→H b = some u→H3 b = some u)∧H3 a = some (.frz o (.dK (encO bs)))∧NetAt H3 p fs g'∧fs.map (·.1) = ks.take i∧New H p fs∧(∀ x∈ks.take i,g' x = phiR f (rc g) x)∧∀ x,x∉ks.take i→g' x = [];forDm hN1.out fz I'1 (fun e=>?_) (fun _ _ _ h=>?_) (fun i k v σ H3 hk pv=>?_) (fun σ H3 pv=>?_))⟩
    · subst e
      refine ⟨_,_,[],fun _=>[],rfl,fun b u hb e=>by rw [upd_ne hb];exact S0 _ _ e,upd_same,⟨by rw [upd_ne (Ne.symm pa),upd_same];rfl,fun _ h=>absurd h (by simp),List.nodup_nil,by simp⟩,rfl,⟨hp,fun _ h=>absurd h (by simp)⟩,fun _ h=>absurd h (by simp),fun _ _=>rfl⟩
    · obtain ⟨_,_,_,_,_,_,h,_⟩:=h;exact h
    · obtain ⟨x3,x4,fs,g',rfl,hrest,ha,hC,hfs,hnew,hg1,hg2⟩:=pv
      unfold encO at hk
      rw [List.getElem?_map] at hk
      cases hb:bs[i]? with
      | none=>rw [hb] at hk;cases hk
      | some z =>
      rw [hb] at hk
      cases hk
      have hz:z∈bs:=List.mem_of_getElem? hb
      have had:=mem_addrOf hN.ks (x:=z.1) (b:=z.2) hz
      have hza:z.2≠a:=hN.ne had
      have hrow:=hrest _ _ hza (hN.inn z hz)
      have hki:ks[i]? = some z.1:=by rw [← hks,List.getElem?_map,hb];rfl
      have hzm:z.1∈ks:=List.mem_of_getElem? hki
      have hzp:z.2≠p:=fun e=>by have:=hN.inn z hz;rw [e,hp] at this;cases this
      have hfresh:z.1∉ks.take i:=nodup_take hnd hki
      have hcl:fs.length≤12:=by
        have:=congrArg List.length hfs
        rw [List.length_map,List.length_take] at this
        omega
      intro r2 hr2
      obtain ⟨d1,d2⟩:=hC.add (x:=z.1) (by rw [hfs];exact hfresh) hr2 (szl (by omega)) (hg2 z.1 hfresh)
      refine ⟨_,rfl,_,rfl,p,_,rfl,d1,?_⟩
      have r2a:r2≠a:=fun e=>by rw [e,ha] at hr2;cases hr2
      have r20:H r2 = none:=by
        cases hh:H r2 with
        | none=>rfl
        | some u=>rw [hrest r2 u r2a hh] at hr2;cases hr2
      have hnewa:New H p (fs ++ [(z.1,r2)]):=⟨hnew.1,fun y hy=>by
        rcases List.mem_append.mp hy with c | c
        · exact hnew.2 y c
        · rw [List.mem_singleton.mp c];exact r20⟩
      have hresta:∀ b u,b≠a→H b = some u→(upd (upd H3 r2 (.dK [])) p (.dK (encO (fs ++ [(z.1,r2)])))) b = some u:=fun b u hba e=>by
        have e3:=hrest b u hba e
        rw [upd_ne (ne_of_none e hp),upd_ne (ne_of_none e3 hr2)];exact e3
      have haa:(upd (upd H3 r2 (.dK [])) p (.dK (encO (fs ++ [(z.1,r2)])))) a = some (.frz o (.dK (encO bs))):=by rw [upd_ne pa,upd_ne (Ne.symm r2a)];exact ha
      generalize upd (upd H3 r2 (.dK [])) p (.dK (encO (fs ++ [(z.1,r2)]))) = Ha at d1 d2 hresta haa
      have hrowa:=hresta _ _ hza (hN.inn z hz)
      have hk2:addrOf (fs ++ [(z.1,r2)]) z.1 = some r2:=mem_addrOf d2.ks (by simp)
      have hzc:∀ y∈fs ++ [(z.1,r2)],y.2≠z.2:=fun y hy e=>by have:=hnewa.2 y hy;rw [e,hN.inn z hz] at this;cases this
      refine ⟨_,rfl,_,rfl,a,.ref z.2,rfl,.inl ⟨encO bs,Sum.inr z.1,.inr ⟨o,haa⟩,rfl,by rw [valV_encO,had];rfl⟩,z.2,_,rfl,.inl hrowa,fun o2 H7 fz2=>(let I'2:Nat→L2.St→Hp→Prop:=fun j σ H8=>∃ x4 g2,σ = [some (.ref a),some (.ref b),some (.ref p),some (.str z.1),x4]∧(∀ b u,b≠a→b≠z.2→H b = some u→H8 b = some u)∧H8 a = some (.frz o (.dK (encO bs)))∧H8 z.2 = some (.frz o2 (.dK (encI (f z.1))))∧NetAt H8 p (fs ++ [(z.1,r2)]) g2∧g2 z.1 = (phiR f (rc g) z.1).take j∧∀ x,x≠z.1→g2 x = g' x;forDm hrowa fz2 I'2 (fun e=>?_) (fun _ _ _ h=>?_) (fun j k v σ H8 hk2' pv=>?_) (fun σ H8 pv=>?_))⟩
      · subst e
        exact ⟨_,g',rfl,fun b u hb1 hb2 e=>by rw [upd_ne hb2];exact hresta b u hb1 e,by rw [upd_ne (Ne.symm hza)];exact haa,upd_same,d2.updo (Ne.symm hzp) hzc,by rw [hg2 z.1 hfresh];rfl,fun _ _=>rfl⟩
      · obtain ⟨_,_,_,_,_,h,_⟩:=h;exact h
      · obtain ⟨x4,g2,rfl,hrest8,ha8,hz8,hC8,hgk,hgo⟩:=pv
        have hk3:∃ e,(f z.1)[j]? = some e∧k = Sum.inr e.1:=by
          unfold encI at hk2'
          rw [List.getElem?_map] at hk2'
          cases he:(f z.1)[j]? with
          | none=>rw [he] at hk2';cases hk2'
          | some e=>rw [he] at hk2';cases hk2';exact ⟨e,rfl,rfl⟩
        obtain ⟨e,he,rfl⟩:=hk3
        obtain ⟨y,v⟩:=e
        have hsm:Sm H H8:=by
          have oth:∀ c u,c≠a→c≠z.2→Rd H c u→Rd H8 c u:=fun c u h1 h2 h=>h.elim (fun q=>.inl (hrest8 c _ h1 h2 q)) fun ⟨o3,q⟩=>.inr ⟨o3,hrest8 c _ h1 h2 q⟩
          have na:∀ c u,(∀ l,u≠HO.dK l)→Rd H c u→c≠a∧c≠z.2:=fun c u hu h=>by
            refine ⟨fun e=>?_,fun e=>?_⟩
            · rcases h with q | ⟨_,q⟩ <;> rw [e,hN.out] at q <;> cases q
              exact hu _ rfl
            · rcases h with q | ⟨_,q⟩ <;> rw [e,hN.inn z hz] at q <;> cases q
              exact hu _ rfl
          refine ⟨fun c xs h=>?_,fun c xs h=>?_,fun c xs h=>?_⟩
          · obtain ⟨h1,h2⟩:=na c _ (by intro l e;cases e) h
            exact oth c _ h1 h2 h
          · obtain ⟨h1,h2⟩:=na c _ (by intro l e;cases e) h
            exact oth c _ h1 h2 h
          · by_cases h1:c = a
            · subst h1
              rcases h with q | ⟨_,q⟩ <;> rw [hN.out] at q <;> cases q
              exact .inr ⟨o,ha8⟩
            · by_cases h2:c = z.2
              · subst h2
                rcases h with q | ⟨_,q⟩ <;> rw [hN.inn z hz] at q <;> cases q
                exact .inr ⟨o2,hz8⟩
              · exact oth c _ h1 h2 h
        have hN8:=hN.r.sm hsm
        have hM8:=hM.sm hsm
        have hem:(y,v)∈f z.1:=List.mem_of_getElem? he
        have hek:y∈(f z.1).map (·.1):=List.mem_map.mpr ⟨_,hem,rfl⟩
        have hyk:y∈ks:=hg.inn z.1 hzm y hek
        have hv:look (f z.1) y = some v:=mem_look (hg.nd z.1 hzm) hem
        obtain ⟨v2,hv2⟩:=Option.isSome_iff_exists.mp (hsup z.1 hzm y hyk (by rw [hv];rfl))
        have hrc:rc g z.1 y = v2:=by unfold rc;rw [hv2];rfl
        obtain ⟨b2,hb2⟩:=addrOf_some (bs:=cs) (x:=z.1) (by rw [hcs];exact hzm)
        have hpe:(phiR f (rc g) z.1)[j]? = some (y,if v - v2 > 0 then v - v2 else 0):=by
          unfold phiR
          rw [List.getElem?_map,he]
          show some (y,if v - rc g z.1 y > 0 then v - rc g z.1 y else 0) = _
          rw [hrc]
        have hno:look (g2 z.1) y = none:=by
          rw [hgk]
          refine look_none.mpr fun hm=>?_
          rw [List.map_take] at hm
          have pk:(phiR f (rc g) z.1).map (·.1) = (f z.1).map (·.1):=by unfold phiR;rw [List.map_map];rfl
          rw [pk] at hm
          exact nodup_take (hg.nd z.1 hzm) (by rw [List.getElem?_map,he];rfl) hm
        have hl2:(g2 z.1).length≤12:=by
          rw [hgk,List.length_take]
          unfold phiR
          rw [List.length_map]
          have:=hg.len hzm
          omega
        obtain ⟨p1,p2⟩:=hC8.put hk2 (if v - v2 > 0 then v - v2 else 0) y (szl (by omega))
        refine ⟨_,rfl,_,rfl,a,_,rfl,hN8.dget had,_,rfl,z.2,_,rfl,hN8.rget' had hv,_,rfl,_,rfl,b,_,rfl,hM8.dget hb2,_,rfl,b2,_,rfl,hM8.rget' hb2 hv2,_,_,rfl,rfl,0,_,rfl,_,rfl,_,rfl,p,_,rfl,hC8.r.dget hk2,_,rfl,r2,_,rfl,p1,?_⟩
        refine ⟨_,_,rfl,fun c u h1 h2 e0=>?_,?_,?_,p2,?_,fun x hx=>by rw [putR_ne hx];exact hgo x hx⟩
        · rw [upd_ne (ne_of_none e0 r20)];exact hrest8 c u h1 h2 e0
        · rw [upd_ne (Ne.symm r2a)];exact ha8
        · rw [upd_ne (fun e=>by have:=hN.inn z hz;rw [e,r20] at this;cases this)];exact hz8
        · rw [putR_at,put_new hno,hgk,List.take_add_one,hpe];rfl
      · obtain ⟨x4,g2,rfl,hrest8,ha8,hz8,hC8,hgk,hgo⟩:=pv
        have hpl:(encI (f z.1)).length = (phiR f (rc g) z.1).length:=by rw [encI_len];unfold phiR;rw [List.length_map]
        rw [hpl,List.take_of_length_le (Nat.le_refl _)] at hgk
        refine ⟨_,_,fs ++ [(z.1,r2)],g2,rfl,fun b u h1 e0=>?_,?_,hC8.updo (Ne.symm hzp) hzc,?_,hnewa,fun x hx=>?_,fun x hx=>?_⟩
        · by_cases h2:b = z.2
          · subst h2
            rw [upd_same]
            rw [hN.inn z hz] at e0;exact e0
          · rw [upd_ne h2];exact hrest8 b u h1 h2 e0
        · rw [upd_ne (Ne.symm hza)];exact ha8
        · rw [List.map_append,hfs,List.take_add_one,hki];rfl
        · by_cases c:x = z.1
          · rw [c];exact hgk
          · rw [hgo x c]
            refine hg1 x ?_
            rcases (take_snoc hki x).mp hx with m | m
            · exact m
            · exact absurd m c
        · have c:x≠z.1:=fun e=>hx ((take_snoc hki x).mpr (.inr e))
          rw [hgo x c]
          exact hg2 x fun m=>hx ((take_snoc hki x).mpr (.inl m))
    · obtain ⟨x3,x4,fs,g',rfl,hrest,ha,hC,hfs,hnew,hg1,hg2⟩:=pv
      have el:(encO bs).length = ks.length:=by rw [← hks];unfold encO;simp
      rw [el,List.take_length] at hfs hg1
      have hcsa:∀ z∈fs,z.2≠a:=fun z hz e=>by have:=hnew.2 z hz;rw [e,hN.out] at this;cases this
      have hC2:NetAt H3 p fs (phiR f (rc g)):=⟨hC.out,fun y hy=>by rw [← hg1 y.1 (hfs ▸ List.mem_map.mpr ⟨y,hy,rfl⟩)];exact hC.inn y hy,hC.ks,hC.nd⟩
      refine ⟨_,rfl,q p _ ⟨fs,fun b u e=>?_,hC2.updo (Ne.symm pa) hcsa,hfs,hnew⟩⟩
      by_cases hb:b = a
      · subst hb
        rw [upd_same];rw [hN.out] at e;exact e
      · rw [upd_ne hb];exact hrest b u hb e
end
end K15
namespace K15
open PySem L2 PySem.Spec PyProof.Rows
section
variable {P:Program} {w:World} {K:PySem.W.Frag} {mg:Str→Option Value} {base:Heap} {t:Adr}
inductive Sp_has (K:PySem.W.Frag) (vs:List V) (H:Hp) (Q:VK):Prop
  | mk (a:Addr) (v:V) (kvs:List (Key×V)) (d:D):(vs = [.ref a,v])→(Rd H a (.dK kvs))→(Rep K H v d)→(Q (.bl (hasD kvs d)) H)→Sp_has K vs H Q
def sp_has (K:PySem.W.Frag):Sp:=fun vs H Q _=>Sp_has K vs H Q
theorem ok_has_place (T:Txt K mg t):FnOk P w K mg base CX0 1 t.has_place t.fd_has_place ["net","thing"] (sp_has K):=by
  refine T.f_has_place.fn.ok sc_has_place (fun vs H Q E h=>?_) (fun cdv A outer s H vs Q E hr h=>?_)
  · obtain ⟨a,v,kvs,d,rfl,_⟩:=h;rfl
  · obtain ⟨a,v,kvs,d,rfl,hA,hd,q⟩:=h
    have hu:=hu_of hr
    refine ltX ?_
    intro X' D'
    refine ⟨_,(pss_one (ps_ret (pe_and (pe_callB call_isi (by rfl) T.b_isinstance boot_isinstance' (pa_cons (pv 1) (pa_cons (pe_bltn (v:=.ty "str") rfl T.b_str boot_ty_str rfl) pa_nil))) (pe_one (pe_cmp (pc_din hu (pv 1) (pv 0))))))),?_⟩
    refine ⟨_,rfl,_,d,"str",rfl,hd,rfl,_,rfl,?_⟩
    rw [isiB_str]
    cases d with
    | str x =>
      cases hd
      exact iteT ⟨_,rfl,_,rfl,a,_,rfl,.inl ⟨kvs,Sum.inr x,hA,rfl,rfl⟩,q⟩
    | _=>exact iteF q
inductive Sp_chk2 (K:PySem.W.Frag) (vs:List V) (H:Hp) (Q:VK):Prop
  | mk (a:Addr) (bs:Outer) (g:Str→L2.Row) (x y:Str):(vs = [.ref a,.str x,.str y])→(NetR H a bs g)→(x∈bs.map (·.1))→(y∈bs.map (·.1))→(x≠y)→(∀ H',Same H H'→Q .non H')→Sp_chk2 K vs H Q
def sp_chk2 (K:PySem.W.Frag):Sp:=fun vs H Q _=>Sp_chk2 K vs H Q
theorem ok_check_two (T:Txt K mg t):FnOk P w K mg base CX0 2 t.check_two t.fd_check_two ["net","one","other"] (sp_chk2 K):=by
  refine T.f_check_two.fn.ok sc_check_two (fun vs H Q E h=>?_) (fun cdv A outer s H vs Q E hr h=>?_)
  · obtain ⟨a,bs,g,x,y,rfl,_⟩:=h;rfl
  · obtain ⟨a,bs,g,x,y,rfl,hN,hx,hy,hne,q⟩:=h
    have hu:=hu_of hr
    obtain ⟨b,hb⟩:=addrOf_some hx
    obtain ⟨b2,hb2⟩:=addrOf_some hy
    refine ltX ?_
    intro X' D'
    refine ⟨_,(pss_consL (ps_forL PassesOwn.never rfl (pi_tup (pe_tup (pa_cons (pv 1) (pa_cons (pv 2) pa_nil)))) (pg_name (i:=3) sc_check_two.nd rfl (Or.inl rfl))
        (pss_one (ps_ifL (pt_not (pt_val (pe_call (ok_has_place T) (hr.mono (by decide)) rfl T.f_has_place.mg T.f_has_place.kp T.f_has_place.bd .nil pass0 (pa_cons (pv 0) (pa_cons (pv 3) pa_nil)))))
        (pss_one ps_never)
        pss_nil)))
      (pss_one (ps_ifL (pt_cmpR op_eq (pv 1) (pv 2) (nomark _))
        (pss_one ps_never)
        pss_nil))),?_⟩
    extract_lets +lift
    refine ⟨_,rfl,_,rfl,(by show 2≤sizeLine;decide),fun r hr'=>⟨r,rfl,⟨_,SqT.of upd_same⟩,?_⟩⟩
    have S1:=Same.updN (o:=.tup [.str x,.str y]) hr'
    have hN1:=hN.sm S1.sm
    refine (let I'1:Nat→L2.St→Hp→Prop:=fun i σ H2=>∃ x4,σ = [some (.ref a),some (.str x),some (.str y),x4]∧H2 = upd H r (.tup [.str x,.str y]);for_tup (xs:=[.str x,.str y]) I'1 ⟨_,rfl,rfl⟩ (fun i σ H2 hi pv=>?_) (fun i z σ H2 hz pv=>?_) (fun σ H2 pv=>?_))
    · obtain ⟨_,rfl,rfl⟩:=pv
      exact SqT.of upd_same
    · obtain ⟨x4,rfl,rfl⟩:=pv
      have:∃ u bu,z = .str u∧addrOf bs u = some bu:=by
        match i,hz with
        | 0,hz=>cases hz;exact ⟨x,b,rfl,hb⟩
        | 1,hz=>cases hz;exact ⟨y,b2,rfl,hb2⟩
        | n + 2,hz=>simp at hz
      obtain ⟨u,bu,rfl,hbu⟩:=this
      refine ⟨_,rfl,_,rfl,a,_,_,.str u,rfl,hN1.out,.str u,_,rfl,?_⟩
      rw [show hasD (encO bs) (.str u) = true by show (valV (encO bs) (Sum.inr u)).isSome = true;rw [valV_encO,hbu];rfl]
      exact iteF ⟨_,rfl,rfl⟩
    · obtain ⟨x4,rfl,rfl⟩:=pv
      exact ⟨_,rfl,_,rfl,rfl,_,rfl,iteD (fun e=>absurd e (by intro z;injection z with z;exact hne z)) (fun _=>q _ S1)⟩
inductive Sp_ls (K:PySem.W.Frag) (vs:List V) (H:Hp) (Q:VK):Prop
  | mk (a b c:Addr) (bs:Outer) (f:Str→L2.Row) (os ts:List Str):(vs = [.ref a,.ref b,.ref c])→(NetAt H a bs f)→(RowsIn (bs.map (·.1)) f)→((∀ x∈bs.map (·.1),∀ y∈bs.map (·.1),0≤rc f x y))→(bs.length≤12)→(SqL K H b (os.map V.str))→(os.Nodup)→((∀ x∈os,x∈bs.map (·.1)))→(SqL K H c (ts.map V.str))→((∀ x∈os,x∉ts))→(∀ p sp H' amount R,Same H H'→H p = none→H sp = none→H' p = some (.tup [.int amount,.ref sp])→H' sp = some (.lst ((sortS R).map V.str))→R.Nodup→LeastS (bs.map (·.1)) (rc f) os ts amount R→Q (.ref p) H')→Sp_ls K vs H Q
def sp_ls (K:PySem.W.Frag):Sp:=fun vs H Q _=>Sp_ls K vs H Q
theorem ok_least_side (T:Txt K mg t):FnOk P w K mg base CX0 4 t.least_side t.fd_least_side ["arcs","ones","others"] (sp_ls K):=by
  refine T.f_least_side.fn.ok sc_least_side (fun vs H Q E h=>?_) (fun cdv A outer s H vs Q E hr h=>?_)
  · obtain ⟨a,b,c,bs,f,os,ts,rfl,_⟩:=h;rfl
  · obtain ⟨a,b,c,bs,f,os,ts,rfl,hN,hg,hnn,hlen,hB,hnd,hos,hC,hdj,q⟩:=h
    refine ltX ?_
    intro X' D'
    refine ⟨_,(pss_consL (ps_set (i:=3) sc_least_side.nd rfl (Or.inl rfl) (pe_call (ok_pushed_through T) (hr.mono (by decide)) rfl T.f_pushed_through.mg T.f_pushed_through.kp T.f_pushed_through.bd .nil pass0 (pa_cons (pv 0) (pa_cons (pv 1) (pa_cons (pv 2) pa_nil)))))
      (pss_one (ps_ret (pe_tup (pa_cons (pe_ix ix_tup (pv 3) pe_int (fun _ _=>rfl)) (pa_cons (pe_callB call_sortedD (by rfl) T.b_sorted boot_sorted (pa_cons (pe_call (ok_reached_from T) (hr.mono (by decide)) rfl T.f_reached_from.mg T.f_reached_from.kp T.f_reached_from.bd .nil pass0 (pa_cons (pe_ix ix_tup (pv 3) pe_int (fun _ _=>rfl)) (pa_cons (pv 1) pa_nil))) pa_nil)) pa_nil)))))),?_⟩
    extract_lets +lift
    refine ⟨_,rfl,_,rfl,_,rfl,a,b,c,bs,f,os,ts,rfl,hN,hg,hnn,hlen,hB,hnd,hos,hC,hdj,fun p rp H1 amount cs g S1 hp hP hR hcs hnew hrow _ fl hL _ _=>?_⟩
    obtain ⟨L0,hb0,hd0,hn0⟩:=hL
    have hcl:cs.length≤12:=by
      have:=congrArg List.length hcs
      rw [List.length_map,List.length_map] at this;omega
    have hkl:(bs.map (·.1)).length≤12:=by rw [List.length_map];exact hlen
    refine ⟨_,rfl,p,_,0,_,rfl,rfl,SqT.of hP,rfl,_,rfl,p,_,1,_,rfl,rfl,SqT.of hP,rfl,_,rfl,rp,b,cs,g,os,rfl,hR.r,by rw [hcs];exact hrow,hcl,S1.seq hB,hnd,by rw [hcs];exact hos,fun ap H2 L S2 hap hA hb hd _=>?_⟩
    rw [hcs] at hb hd
    have hLl:=hb.len
    have hks:keysS (ahK L) (L.map (·.1)):=by unfold keysS ahK;simp
    refine ⟨rfl,ap,_,L.map (·.1),rfl,.inl hA,hks,by rw [List.length_map];omega,fun sp hsp=>⟨(by show 2≤sizeLine;decide),fun tp htp=>?_⟩⟩
    have S3:=(S1.trans S2).trans (Same.updN (o:=.lst ((sortS (L.map (·.1))).map V.str)) hsp)
    have hst:sp≠tp:=fun e=>by rw [← e,upd_same] at htp;cases htp
    exact q tp sp _ amount (L.map (·.1)) (S3.trans (Same.updN htp)) (S3.free htp) ((S1.trans S2).free hsp) upd_same (by rw [upd_ne hst,upd_same]) hb.nd (least_of hos fl hb0 hd0 hn0 hb hd)
inductive Sp_most  (vs:List V) (H:Hp) (Q:VK):Prop
  | mk (a:Addr) (bs:Outer) (f:Str→L2.Row) (one other:Str):(vs = [.ref a,.str one,.str other])→(NetAt H a bs f)→(RowsIn (bs.map (·.1)) f)→((∀ x∈bs.map (·.1),∀ y∈bs.map (·.1),0≤rc f x y))→(bs.length≤12)→(one∈bs.map (·.1))→(other∈bs.map (·.1))→(one≠other)→(∀ H' amount R,Same H H'→R.Nodup→LeastS (bs.map (·.1)) (rc f) [one] [other] amount R→Q (.int amount) H')→Sp_most  vs H Q
def sp_most :Sp:=fun vs H Q _=>Sp_most  vs H Q
theorem ok_most_between (T:Txt K mg t):FnOk P w K mg base CX0 5 t.most_between t.fd_most_between ["net","one","other"] sp_most:=by
  refine T.f_most_between.fn.ok sc_most_between (fun vs H Q E h=>?_) (fun cdv A outer s H vs Q E hr h=>?_)
  · obtain ⟨a,bs,f,one,other,rfl,_⟩:=h;rfl
  · obtain ⟨a,bs,f,one,other,rfl,hN,hg,hnn,hlen,h1,h2,hne,q⟩:=h
    have hu:=hu_of hr
    refine ltX ?_
    intro X' D'
    refine ⟨_,(pss_consL (ps_expr (pe_call (ok_check_two T) (hr.mono (by decide)) rfl T.f_check_two.mg T.f_check_two.kp T.f_check_two.bd .nil pass0 (pa_cons (pv 0) (pa_cons (pv 1) (pa_cons (pv 2) pa_nil)))))
      (pss_one (ps_ret (pe_ix ix_tup (pe_call (ok_least_side T) (hr.mono (by decide)) rfl T.f_least_side.mg T.f_least_side.kp T.f_least_side.bd .nil pass0 (pa_cons (pv 0) (pa_cons (pe_lst (pa_cons (pv 1) pa_nil)) (pa_cons (pe_lst (pa_cons (pv 2) pa_nil)) pa_nil)))) pe_int (fun _ _=>rfl))))),?_⟩
    extract_lets +lift
    refine ⟨_,rfl,_,rfl,_,rfl,a,bs,f,one,other,rfl,hN.r,h1,h2,hne,fun H1 S1=>?_⟩
    refine ⟨_,rfl,_,rfl,(by show 1≤sizeLine;decide),fun l1 hl1=>⟨_,rfl,(by show 1≤sizeLine;decide),fun l2 hl2=>?_⟩⟩
    have T1:=Same.updN (o:=.lst [V.str one]) hl1
    have T2:=Same.updN (o:=.lst [V.str other]) hl2
    have S2:=(S1.trans T1).trans T2
    refine ⟨a,l1,l2,bs,f,[one],[other],rfl,hN.same S2,hg,hnn,hlen,SqL.of (T2 _ _ upd_same),by simp,(by simpa using h1),SqL.of upd_same,(by simpa using hne),fun p sp H3 amount R S3 hp hsp hP hSp hRn hL=>?_⟩
    exact ⟨p,_,0,_,rfl,rfl,SqT.of hP,rfl,q H3 amount R (S2.trans S3) hRn hL⟩
inductive Sp_side  (vs:List V) (H:Hp) (Q:VK):Prop
  | mk (a:Addr) (bs:Outer) (f:Str→L2.Row) (one other:Str):(vs = [.ref a,.str one,.str other])→(NetAt H a bs f)→(RowsIn (bs.map (·.1)) f)→((∀ x∈bs.map (·.1),∀ y∈bs.map (·.1),0≤rc f x y))→(bs.length≤12)→(one∈bs.map (·.1))→(other∈bs.map (·.1))→(one≠other)→(∀ H' sp amount R,Same H H'→H' sp = some (.lst ((sortS R).map V.str))→R.Nodup→LeastS (bs.map (·.1)) (rc f) [one] [other] amount R→Q (.ref sp) H')→Sp_side  vs H Q
def sp_side :Sp:=fun vs H Q _=>Sp_side  vs H Q
theorem ok_side_between (T:Txt K mg t):FnOk P w K mg base CX0 5 t.side_between t.fd_side_between ["net","one","other"] sp_side:=by
  refine T.f_side_between.fn.ok sc_side_between (fun vs H Q E h=>?_) (fun cdv A outer s H vs Q E hr h=>?_)
  · obtain ⟨a,bs,f,one,other,rfl,_⟩:=h;rfl
  · obtain ⟨a,bs,f,one,other,rfl,hN,hg,hnn,hlen,h1,h2,hne,q⟩:=h
    have hu:=hu_of hr
    refine ltX ?_
    intro X' D'
    refine ⟨_,(pss_consL (ps_expr (pe_call (ok_check_two T) (hr.mono (by decide)) rfl T.f_check_two.mg T.f_check_two.kp T.f_check_two.bd .nil pass0 (pa_cons (pv 0) (pa_cons (pv 1) (pa_cons (pv 2) pa_nil)))))
      (pss_one (ps_ret (pe_ix ix_tup (pe_call (ok_least_side T) (hr.mono (by decide)) rfl T.f_least_side.mg T.f_least_side.kp T.f_least_side.bd .nil pass0 (pa_cons (pv 0) (pa_cons (pe_lst (pa_cons (pv 1) pa_nil)) (pa_cons (pe_lst (pa_cons (pv 2) pa_nil)) pa_nil)))) pe_int (fun _ _=>rfl))))),?_⟩
    extract_lets +lift
    refine ⟨_,rfl,_,rfl,_,rfl,a,bs,f,one,other,rfl,hN.r,h1,h2,hne,fun H1 S1=>?_⟩
    refine ⟨_,rfl,_,rfl,(by show 1≤sizeLine;decide),fun l1 hl1=>⟨_,rfl,(by show 1≤sizeLine;decide),fun l2 hl2=>?_⟩⟩
    have T1:=Same.updN (o:=.lst [V.str one]) hl1
    have T2:=Same.updN (o:=.lst [V.str other]) hl2
    have S2:=(S1.trans T1).trans T2
    refine ⟨a,l1,l2,bs,f,[one],[other],rfl,hN.same S2,hg,hnn,hlen,SqL.of (T2 _ _ upd_same),by simp,(by simpa using h1),SqL.of upd_same,(by simpa using hne),fun p sp H3 amount R S3 hp hsp hP hSp hRn hL=>?_⟩
    exact ⟨p,_,1,_,rfl,rfl,SqT.of hP,rfl,q H3 sp amount R (S2.trans S3) hSp hRn hL⟩
end
end K15
namespace K15
open PySem L2 PySem.Spec PyProof.Rows
section
variable {P:Program} {w:World} {K:PySem.W.Frag} {mg:Str→Option Value} {base:Heap} {t:Adr}
theorem rtAt_updD {H0 H:Hp} {p b:Addr} {zs:Rz} {l l':List (Key×V)} (r:RtAt H0 H p zs) (h:H b = some (.dK l)):RtAt H0 (upd H b (.dK l')) p zs :=
  ⟨by rw [upd_ne (ne_of r.out h (by intro z;cases z))];exact r.out,fun z hz=>by rw [upd_ne (ne_of (r.tp z hz) h (by intro z;cases z))];exact r.tp z hz,fun z hz=>by rw [upd_ne (ne_of (r.ws z hz) h (by intro z;cases z))];exact r.ws z hz,r.np,r.nw,r.ne⟩
theorem phi_rows {ks:List Str} {f:Str→L2.Row} {r:Fl} (h:RowsIn ks f):RowsIn ks (phiR f r):=by
  have e:∀ x,(phiR f r x).map (·.1) = (f x).map (·.1):=fun x=>by unfold phiR;rw [List.map_map];rfl
  exact ⟨fun x hx=>by rw [e];exact h.nd x hx,fun x hx=>by rw [e];exact h.inn x hx⟩
theorem one_sum {R:Rts} (h:∀ e∈R,1≤e.1):(R.length:Int)≤sumL R fun e=>e.1:=by
  induction R with
  | nil=>exact Int.le_refl _
  | cons a R ih =>
    have:=ih fun e he=>h e (List.mem_cons_of_mem _ he)
    have:=h a (by simp)
    rw [sumL_cons,List.length_cons]
    omega
inductive Sp_routes  (vs:List V) (H:Hp) (Q:VK):Prop
  | mk (a:Addr) (bs:Outer) (f:Str→L2.Row) (one other:Str):(vs = [.ref a,.str one,.str other])→(NetAt H a bs f)→(RowsIn (bs.map (·.1)) f)→((∀ x∈bs.map (·.1),∀ y∈bs.map (·.1),0≤rc f x y))→((∀ x∈bs.map (·.1),∀ y∈bs.map (·.1),(look (f x) y).isSome = (look (f y) x).isSome))→(bs.length≤12)→(one∈bs.map (·.1))→(other∈bs.map (·.1))→(one≠other)→(∀ H' p zs amount,Same H H'→RtAt H H' p zs→RoutesOf (bs.map (·.1)) f one other amount (rtR zs)→Q (.ref p) H')→Sp_routes  vs H Q
def sp_routes :Sp:=fun vs H Q _=>Sp_routes  vs H Q
theorem ok_routes_between (T:Txt K mg t):FnOk P w K mg base CX0 5 t.routes_between t.fd_routes_between ["net","one","other"] sp_routes:=by
  refine T.f_routes_between.fn.ok sc_routes_between (fun vs H Q E h=>?_) (fun cdv A outer s H vs Q E hr h=>?_)
  · obtain ⟨a,bs,f,one,other,rfl,_⟩:=h;rfl
  · obtain ⟨a,bs,f,one,other,rfl,hN,hg,hnn,hsy,hlen,h1,h2,hne,q⟩:=h
    have hu:=hu_of hr
    refine ltX ?_
    intro X' D'
    refine ⟨_,(pss_consL (ps_expr (pe_call (ok_check_two T) (hr.mono (by decide)) rfl T.f_check_two.mg T.f_check_two.kp T.f_check_two.bd .nil pass0 (pa_cons (pv 0) (pa_cons (pv 1) (pa_cons (pv 2) pa_nil)))))
      (pss_consL (ps_set (i:=3) sc_routes_between.nd rfl (Or.inl rfl) (pe_call (ok_pushed_through T) (hr.mono (by decide)) rfl T.f_pushed_through.mg T.f_pushed_through.kp T.f_pushed_through.bd .nil pass0 (pa_cons (pv 0) (pa_cons (pe_lst (pa_cons (pv 1) pa_nil)) (pa_cons (pe_lst (pa_cons (pv 2) pa_nil)) pa_nil)))))
      (pss_consL (ps_set (i:=4) sc_routes_between.nd rfl (Or.inl rfl) (pe_call (ok_flow_on T) (hr.mono (by decide)) rfl T.f_flow_on.mg T.f_flow_on.kp T.f_flow_on.bd .nil pass0 (pa_cons (pv 0) (pa_cons (pe_ix ix_tup (pv 3) pe_int (fun _ _=>rfl)) pa_nil))))
      (pss_consL (ps_set (i:=5) sc_routes_between.nd rfl (Or.inl rfl) (pe_ix ix_tup (pv 3) pe_int (fun _ _=>rfl)))
      (pss_consL (ps_set (i:=6) sc_routes_between.nd rfl (Or.inl rfl) (pe_lst pa_nil))
      (pss_consL (ps_whileL PassesOwn.never (pt_cmpR op_gt (pv 5) pe_int (nomark _))
        (pss_consL (ps_set (i:=7) sc_routes_between.nd rfl (Or.inl rfl) (pe_call (ok_shortest_way T) (hr.mono (by decide)) rfl T.f_shortest_way.mg T.f_shortest_way.kp T.f_shortest_way.bd .nil pass0 (pa_cons (pv 4) (pa_cons (pe_lst (pa_cons (pv 1) pa_nil)) (pa_cons (pe_lst (pa_cons (pv 2) pa_nil)) pa_nil)))))
      (pss_consL (ps_set (i:=8) sc_routes_between.nd rfl (Or.inl rfl) (pe_call (ok_least_along T) (hr.mono (by decide)) rfl T.f_least_along.mg T.f_least_along.kp T.f_least_along.bd .nil pass0 (pa_cons (pv 4) (pa_cons (pv 7) pa_nil))))
      (pss_consL (ps_forL PassesOwn.never rfl (pi_zip rfl T.b_zip (pa_cons (pv 7) (pa_cons (pe_slice sl_list (pv 7) (po_some pe_int) po_none) pa_nil))) (pg_tup rfl (pgs_cons (pg_name (i:=9) sc_routes_between.nd rfl (Or.inl rfl)) (pgs_cons (pg_name (i:=10) sc_routes_between.nd rfl (Or.inl rfl)) pgs_nil)))
        (pss_one (ps_daug hu (pe_dget hu (pv 4) (pv 9) (fun _ _=>rfl)) (pv 10) (pv 8) in_sub (by intros;rfl))))
      (pss_consL (ps_expr (pe_bm PySem.F.plainAttrs_list PySem.F.slot_list_append PySem.F.type_list_append mt_append (pv 6) (pa_cons (pe_tup (pa_cons (pv 8) (pa_cons (pv 7) pa_nil))) pa_nil)))
      (pss_one (ps_aug (i:=5) sc_routes_between.nd rfl (Or.inl rfl) (pv 8) ip_sub)))))))
      (pss_one (ps_ret (pv 6))))))))),?_⟩
    extract_lets +lift
    refine ⟨_,rfl,_,rfl,_,rfl,a,bs,f,one,other,rfl,hN.r,h1,h2,hne,fun H1 S1=>?_⟩
    refine ⟨_,rfl,_,rfl,(by show 1≤sizeLine;decide),fun l1 hl1=>⟨_,rfl,(by show 1≤sizeLine;decide),fun l2 hl2=>?_⟩⟩
    have T1:=Same.updN (o:=.lst [V.str one]) hl1
    have T2:=Same.updN (o:=.lst [V.str other]) hl2
    have S2:=(S1.trans T1).trans T2
    refine ⟨a,l1,l2,bs,f,[one],[other],rfl,hN.same S2,hg,hnn,hlen,SqL.of (T2 _ _ upd_same),by simp,(by simpa using h1),SqL.of upd_same,(by simpa using hne),fun pp rp H3 amount cs g S3 hpp hP hR hcs hnew hrow hsup fl hL hev hbk=>?_⟩
    have U3:=S2.trans S3
    clear T1 T2 hl1 hl2
    have hN3:=hN.same U3
    refine ⟨_,rfl,_,rfl,pp,_,1,_,rfl,rfl,SqT.of hP,rfl,?_⟩
    refine ⟨a,rp,bs,cs,f,g,rfl,hN3,hR.r,hcs,hg,hlen,hsup,fun fp H4 hNS=>?_⟩
    obtain ⟨fs,S4,hF4,hfk,hfn⟩:=hNS
    have hP4:=S4 _ _ hP
    have U4:=U3.trans S4
    have hfn0:New H fp fs:=hfn.same U3
    refine ⟨_,rfl,pp,_,0,_,rfl,rfl,SqT.of hP4,rfl,?_⟩
    refine ⟨(by decide),fun qp hqp=>?_⟩
    have S5:=Same.updN (o:=.lst []) hqp
    have U5:=U4.trans S5
    have hF5:=hF4.same S5
    have hqp0:H qp = none:=U4.free hqp
    have hQ5:(upd H4 qp (.lst [])) qp = some (.lst []):=upd_same
    generalize upd H4 qp (.lst []) = H5 at S5 U5 hF5 hQ5
    have hnd:=hN.ks
    generalize hks:bs.map (·.1) = ks at *
    have hkl:ks.length≤12:=by rw [← hks,List.length_map];exact hlen
    have hfl:fs.length≤12:=by
      have:=congrArg List.length hfk
      rw [List.length_map] at this;omega
    have ri0:=RInv.start (Cs.start hnd h1 fl hsy) h1 fun x _=>phi_back (hbk one rfl) x
    let W'1:Nat→L2.St→Hp→Prop:=fun m σ H6=>∃ lack zs g' x7 x8 x9 x10 n,m = lack.toNat∧σ = [some (.ref a),some (.str one),some (.str other),some (.ref pp),some (.ref fp),some (.int lack),some (.ref qp),x7,x8,x9,x10]∧Same H H6∧NetAt H6 fp fs g'∧RowsIn ks g'∧RtAt H H6 qp zs∧RInv ks one other (rc (phiR f (rc g))) amount (rc g') lack (rtR zs)∧(rc g',lack,rtR zs) = itN (stepR ks one other) n (rc (phiR f (rc g)),amount,[])
    refine ⟨W'1,⟨_,amount,[],phiR f (rc g),_,_,_,_,0,rfl,rfl,U5,hF5,phi_rows hg,⟨hQ5,fun _ h=>absurd h (by simp),fun _ h=>absurd h (by simp),hqp0,fun _ h=>absurd h (by simp),fun _ h=>absurd h (by simp)⟩,ri0,rfl⟩,fun m σ H6 pv=>?_⟩
    clear hF5 hQ5 S5 U5 hP4 hF4
    obtain ⟨lack,zs,g',x7,x8,x9,x10,n,rfl,rfl,S6,hF6,hrow6,hrt,ri,hit⟩:=pv
    refine ⟨_,rfl,_,_,rfl,rfl,_,rfl,iteD (fun h0=>?_) (fun h0=>?_)⟩
    · let W'2:L2.St→Hp→Prop:=fun σ' H'=>∃ m',m' < lack.toNat∧∃ lack zs g' x7 x8 x9 x10 n,m' = lack.toNat∧σ' = [some (.ref a),some (.str one),some (.str other),some (.ref pp),some (.ref fp),some (.int lack),some (.ref qp),x7,x8,x9,x10]∧Same H H'∧NetAt H' fp fs g'∧RowsIn ks g'∧RtAt H H' qp zs∧RInv ks one other (rc (phiR f (rc g))) amount (rc g') lack (rtR zs)∧(rc g',lack,rtR zs) = itN (stepR ks one other) n (rc (phiR f (rc g)),amount,[])
      refine ⟨W'2,fun _ _ h=>h,?_⟩
      refine ⟨_,rfl,_,rfl,(by show 1≤sizeLine;decide),fun l3 hl3=>⟨_,rfl,(by show 1≤sizeLine;decide),fun l4 hl4=>?_⟩⟩
      have T1:=Same.updN (o:=.lst [V.str one]) hl3
      have T2:=Same.updN (o:=.lst [V.str other]) hl4
      have T6:=T1.trans T2
      refine ⟨fp,l3,l4,fs,g',[one],[other],rfl,(hF6.same T6).r,by rw [hfk];exact hrow6,hfl,SqL.of (T2 _ _ upd_same),by simp,(by rw [hfk];simpa using h1),SqL.of upd_same,fun wp H7 w S7 hwp hW7 hsh hwf=>?_⟩
      rw [hfk] at hsh hwf
      have S67:=T6.trans S7
      have hwp0:H wp = none:=(S6.trans T6).free hwp
      have qwp:wp≠qp:=fun e=>by have:=(hrt.same T6).out;rw [← e,hwp] at this;cases this
      have hF7:=hF6.same S67
      have hrt7:=hrt.same S67
      have U7:=S6.trans S67
      clear T1 T2 T6 S7 hl3 hl4 hwp hF6 hrt S67 S6
      rcases hsh with ⟨_,L,hb,hd,hno⟩ | ⟨k,x0,xk,hx0,hxk,hwl,ho,ht,hwn,hwm,hwr⟩
      · have:=ri.cs.blocked hnd h1 hne hb hd (hno other (by simp))
        omega
      have ex0:x0 = one:=by simpa using ho
      have exk:xk = other:=by simpa using ht
      subst ex0 exk
      have wy:Wy ks x0 xk w k:=⟨hwl,hx0,hxk,hwn,hwm⟩
      have hk1:1≤k:=by
        rcases Nat.eq_zero_or_pos k with z | z
        · subst z
          rw [hx0] at hxk
          cases hxk
          exact absurd rfl hne
        · exact z
      have hw12:w.length≤12:=Nat.le_trans (nd_len hwn hwm) hkl
      have pos_some:∀ x y,0 < rc g' x y→(look (g' x) y).isSome = true:=fun x y h=>by
        unfold rc at h
        cases z:look (g' x) y with
        | none=>rw [z] at h;simp at h
        | some v=>rfl
      refine ⟨_,rfl,_,rfl,fp,wp,fs,g',w,rfl,hF7.r,SqL.of hW7,by omega,hw12,(fun i x y hx hy=>⟨by rw [hfk];exact hwm x (List.mem_of_getElem? hx),pos_some x y (hwr i x y hx hy)⟩),fun many H8 S8 hle hex=>?_⟩
      have hm1:1≤many:=by
        obtain ⟨i,x,y,h1,h2,rfl⟩:=hex
        have:=hwr i x y h1 h2
        omega
      have hlf:many = leastF (rc g') w:=by
        obtain ⟨i,x,y,h1,h2,e⟩:=hex
        refine leastF_eq (steps_mem.mpr ⟨i,x,y,h1,h2,e⟩) fun n hn=>?_
        obtain ⟨i,x,y,h1,h2,rfl⟩:=steps_mem.mp hn
        exact hle i x y h1 h2
      have hW8:=S8 _ _ hW7
      have hF8:=hF7.same S8
      have hrt8:=hrt7.same S8
      have U8:=U7.trans S8
      refine ⟨_,rfl,_,rfl,_,rfl,wp,_,rfl,SqL.of hW8,fun sp hsp=>?_⟩
      have hcut:cutV (w.map V.str) (some 1) none = (w.drop 1).map V.str:=by
        unfold cutV
        rw [HT.sIx_none,sIx_of (by decide),List.length_map,← List.map_drop,← List.map_take]
        congr 1
        have:min (1:Int).toNat w.length = 1:=by show min 1 w.length = 1;omega
        rw [this]
        exact List.take_of_length_le (by rw [List.length_drop];omega)
      rw [hcut]
      have S9:=Same.updN (o:=.lst ((w.drop 1).map V.str)) hsp
      have hsp9:(upd H8 sp (.lst ((w.drop 1).map V.str))) sp = some (.lst ((w.drop 1).map V.str)):=upd_same
      generalize upd H8 sp (.lst ((w.drop 1).map V.str)) = H9 at S9 hsp9
      have hW9:=S9 _ _ hW8
      have hmin:min (w.map V.str).length ((w.drop 1).map V.str).length = k:=by simp only [List.length_map,List.length_drop];omega
      refine ⟨wp,sp,_,_,rfl,SqL.of hW9,SqL.of hsp9,(let I'1:Nat→L2.St→Hp→Prop:=fun i σ H10=>∃ x9 x10 gi,σ = [some (.ref a),some (.str x0),some (.str xk),some (.ref pp),some (.ref fp),some (.int lack),some (.ref qp),some (.ref wp),some (.int many),x9,x10]∧Same H H10∧H10 wp = some (.lst (w.map V.str))∧H10 sp = some (.lst ((w.drop 1).map V.str))∧NetAt H10 fp fs gi∧RowsIn ks gi∧RtAt H H10 qp zs∧(∀ x y,(look (gi x) y).isSome = (look (g' x) y).isSome)∧∀ x y,rc gi x y = subI (rc g') many w i x y;for_zip (K:=K) I'1 ⟨_,_,g',rfl,U8.trans S9,hW9,hsp9,hF8.same S9,hrow6,hrt8.same S9,fun _ _=>rfl,fun x y=>by unfold subI;rw [List.take_zero,if_neg (by simp)]⟩ (fun i σ H10 _ pv=>?_) (fun i x y pr σ H10 hx hy pv hpr=>?_) (fun σ H10 pv=>?_))⟩
      · obtain ⟨_,_,_,rfl,_,h1,h2,_⟩:=pv
        exact ⟨SqL.of h1,SqL.of h2⟩
      · obtain ⟨x9,x10,gi,rfl,S10,hW10,hsp10,hF10,hrow10,hrt10,hk10,hrc10⟩:=pv
        rw [List.getElem?_map] at hx hy
        rw [List.getElem?_drop] at hy
        cases hx':w[i]? with
        | none=>rw [hx'] at hx;cases hx
        | some x' =>
        rw [hx'] at hx
        cases hx
        cases hy':w[1 + i]? with
        | none=>rw [hy'] at hy;cases hy
        | some y' =>
        rw [hy'] at hy
        cases hy
        have hy'':w[i + 1]? = some y':=by rw [Nat.add_comm];exact hy'
        have mx:=hwm x' (List.mem_of_getElem? hx')
        have my:=hwm y' (List.mem_of_getElem? hy'')
        obtain ⟨b1,hb1⟩:=addrOf_some (bs:=fs) (x:=x') (by rw [hfk];exact mx)
        have s1:(look (gi x') y').isSome = true:=by rw [hk10];exact pos_some _ _ (hwr i x' y' hx' hy'')
        obtain ⟨v1,hv1⟩:=Option.isSome_iff_exists.mp s1
        have S11:=Same.updN (o:=.tup [V.str x',V.str y']) hpr
        have hF11:=hF10.same S11
        have T11:=S10.trans S11
        have hW11:=S11 _ _ hW10
        have hsp11:=S11 _ _ hsp10
        have hrt11:=hrt10.same S11
        refine ⟨pr,_,rfl,SqT.of upd_same,rfl,_,_,rfl,_,_,rfl,rfl,?_⟩
        generalize upd H10 pr (.tup [V.str x',V.str y']) = H11 at S11 hF11 T11 hW11 hsp11 hrt11
        have rl:(gi x').length < sizeLine:=szl (by have:=hrow10.len mx;omega)
        obtain ⟨p1,p2⟩:=hF11.put hb1 (v1 - many) y' rl
        refine ⟨_,rfl,_,rfl,fp,_,rfl,hF11.r.dget hb1,_,rfl,b1,_,rfl,hF11.r.rget' hb1 hv1,_,rfl,_,_,rfl,rfl,_,p1,?_⟩
        have n1:=hF11.inn _ (addrOf_mem hb1)
        refine ⟨_,_,putR gi x' y' (v1 - many),rfl,Same.netput T11 hfn0 hb1,?_,?_,p2,hrow10.putR mx my,rtAt_updD hrt11 n1,fun aa bb=>?_,fun aa bb=>?_⟩
        · rw [upd_ne (ne_of hW11 n1 (by intro z;cases z))];exact hW11
        · rw [upd_ne (ne_of hsp11 n1 (by intro z;cases z))];exact hsp11
        · rw [some_putR s1];exact hk10 aa bb
        · have e1:rc gi x' y' = v1:=by unfold rc;rw [hv1];rfl
          rw [subI_succ hwn (stL_get.mpr ⟨hx',hy''⟩),rc_putR,← hrc10 aa bb]
          by_cases z:aa = x'∧bb = y'
          · rw [if_pos z,if_pos z,z.1,z.2,e1]
          · rw [if_neg z,if_neg z]
      · obtain ⟨x9,x10,gi,rfl,S10,hW10,hsp10,hF10,hrow10,hrt10,hk10,hrc10⟩:=pv
        rw [hmin] at hrc10
        have e3:rc gi = subI (rc g') many w k:=funext fun x=>funext fun y=>hrc10 x y
        have ri2:=ri.step hnd hne wy hm1 hle hex ri.un
        rw [← e3] at ri2
        have hzl:zs.length≤144:=by
          have h1:=ri.cnt
          have h2:=posN_nn ks (rc g')
          have h3:=posN_le (ks:=ks) (rc (phiR f (rc g))) hkl
          have h4:(rtR zs).length = zs.length:=by unfold rtR;rw [List.length_map]
          omega
        refine ⟨_,rfl,.inl ⟨rfl,_,SqL.of hrt10.out⟩,_,rfl,_,rfl,(by show 2≤sizeLine;decide),fun tp htp=>?_⟩
        have S11:=Same.updN (o:=.tup [V.int many,V.ref wp]) htp
        have hrt11:=hrt10.same S11
        refine ⟨qp,_,_,rfl,rfl,hrt11.out,(by unfold rtV;rw [List.length_map];exact szl (by omega)),?_⟩
        have T11:=S10.trans S11
        have hF11:=hF10.same S11
        have hW11:=S11 _ _ hW10
        have htpv:(upd H10 tp (.tup [V.int many,V.ref wp])) tp = some (.tup [V.int many,V.ref wp]):=upd_same
        have htp0:H tp = none:=S10.free htp
        generalize upd H10 tp (.tup [V.int many,V.ref wp]) = H11 at S11 hrt11 T11 hF11 hW11 htpv
        refine ⟨_,rfl,_,rfl,_,_,rfl,rfl,?_⟩
        have qne:∀ {c:Addr} {u:HO},H11 c = some u→(∀ xs,u≠HO.lst xs)→c≠qp:=fun {c u} h hu e=>by
          rw [e,hrt11.out] at h
          cases h
          exact hu _ rfl
        refine ⟨(lack - many).toNat,by omega,lack - many,zs ++ [(tp,wp,many,w)],gi,_,_,_,_,n + 1,rfl,rfl,T11.upd hqp0,?_,hrow10,?_,?_,?_⟩
        · exact hF11.updo (qne hF11.out (by intro xs e;cases e)) fun z hz=>qne (hF11.inn z hz) (by intro xs e;cases e)
        · refine ⟨?_,fun z hz=>?_,fun z hz=>?_,hqp0,fun z hz=>?_,fun z hz=>?_⟩
          · rw [upd_same];unfold rtV;rw [List.map_append];rfl
          · rcases List.mem_append.mp hz with c | c
            · rw [upd_ne (qne (hrt11.tp z c) (by intro xs e;cases e))];exact hrt11.tp z c
            · rw [List.mem_singleton.mp c,upd_ne (qne htpv (by intro xs e;cases e))];exact htpv
          · rcases List.mem_append.mp hz with c | c
            · rw [upd_ne (hrt11.ne z c)];exact hrt11.ws z c
            · rw [List.mem_singleton.mp c,upd_ne qwp];exact hW11
          · rcases List.mem_append.mp hz with c | c
            · exact hrt11.nw z c
            · rw [List.mem_singleton.mp c];exact ⟨htp0,hwp0⟩
          · rcases List.mem_append.mp hz with c | c
            · exact hrt11.ne z c
            · rw [List.mem_singleton.mp c];exact qwp
        · have:rtR (zs ++ [(tp,wp,many,w)]) = rtR zs ++ [(many,w)]:=by unfold rtR;rw [List.map_append];rfl
          rw [this];exact ri2
        · have e4:rtR (zs ++ [(tp,wp,many,w)]) = rtR zs ++ [(many,w)]:=by unfold rtR;rw [List.map_append];rfl
          show _ = stepR ks x0 xk _
          rw [← hit,e4,e3]
          unfold stepR
          rw [if_pos h0]
          show _ = (subI (rc g') (leastF (rc g') (shortF ks (rc g') [x0] [xk])) (shortF ks (rc g') [x0] [xk]) ((shortF ks (rc g') [x0] [xk]).length - 1),_,_)
          rw [← hwf,← hlf,hwl]
          rfl
    · exact ⟨_,rfl,q H6 qp zs amount S6 hrt ⟨rc g,rc g',lack,(by obtain ⟨n0,e0,_⟩:=hev;exact ⟨n0,e0⟩),(by obtain ⟨_,_,e0⟩:=hev;exact e0),fl,(by obtain ⟨L,b0,d0,n0⟩:=hL;exact ⟨L,b0,d0,n0 other (by simp)⟩),⟨n,hit⟩,h0,ri⟩⟩
end
end K15
namespace K15
open PySem L2 PySem.Spec PyProof.Rows
section
variable {P:Program} {w:World} {K:PySem.W.Frag} {mg:Str→Option Value} {base:Heap} {t:Adr}
theorem sortS_idem (l:List Str):sortS (sortS l) = sortS l:=sortS_congr (sortS_perm l)
inductive Sp_isside  (vs:List V) (H:Hp) (Q:VK):Prop
  | mk (a b:Addr) (bs:Outer) (g:Str→L2.Row) (one other:Str) (R:List Str):(vs = [.ref a,.str one,.str other,.ref b])→(NetR H a bs g)→(H b = some (.lst ((sortS R).map V.str)))→(R.Nodup)→(R.length≤12)→((∀ x∈R,x∈bs.map (·.1)))→(one∈R)→(other∉R)→(∀ H',Same H H'→Q (.bl true) H')→Sp_isside  vs H Q
def sp_isside :Sp:=fun vs H Q _=>Sp_isside  vs H Q
theorem ok_l_is_side (T:Txt K mg t):FnOk P w K mg base CX0 1 t.l_is_side t.fd_l_is_side ["_law_net_here","_law_one","_law_other","_law_side"] sp_isside:=by
  refine T.f_l_is_side.fn.ok sc_l_is_side (fun vs H Q E h=>?_) (fun cdv A outer s H vs Q E hr h=>?_)
  · obtain ⟨a,b,bs,g,one,other,R,rfl,_⟩:=h;rfl
  · obtain ⟨a,b,bs,g,one,other,R,rfl,hN,hB,hRn,hRl,hRk,h1,h2,q⟩:=h
    have hu:=hu_of hr
    have hu1:(A.deeper _).units < cLine:=Nat.lt_of_succ_lt (hu_of hr)
    have hu8:(A.deeper _).units + 8 < cLine:=Nat.lt_of_le_of_lt (Nat.add_le_add_left (by decide:8≤64) _) hr.units
    refine ltX ?_
    intro X' D'
    refine ⟨_,(pss_consL (ps_ifL (PW.pt (pw_or (pt_not (pt_val (pe_callB call_isi (by rfl) T.b_isinstance boot_isinstance' (pa_cons (pv 3) (pa_cons (pe_bltn (v:=.ty "list") rfl T.b_list boot_ty_list rfl) pa_nil))))) (pw_or (pt_cmpR (op_neD hu8) (pv 3) (pe_callB call_sortedL (by rfl) T.b_sorted boot_sorted (pa_cons (pv 3) pa_nil)) (nomark _)) (pw_or1 (pt_cmpR op_ne (pe_lenset (K:=K) rfl rfl rfl T.b_len rfl T.b_set (pa_cons (pv 3) pa_nil)) (pe_callB call_len (by rfl) T.b_len boot_len' (pa_cons (pv 3) pa_nil)) (nomark _))))))
        (pss_one (ps_ret pe_bl))
        pss_nil)
      (pss_consL (ps_ifL (pt_cmpR (op_neD hu8) (pe_comp ["_law_place"] [0] rfl (pi_list (pv 3)) (fun _ _ _ _ _=>(pg_name (i:=0) (show (["_law_place","_law_net_here"]:List Str).Nodup by decide +kernel) rfl (Or.inl rfl))) (fun _ _ _ _ _=>(pif_one (pt_cmp (pc_dnotin hu (pv 0) (pv 1))))) (fun _ _ _ _ _=>(pv 0)) ⟨⟨_,rfl,rfl,.inl rfl⟩,trivial⟩ (hfr:=by show ∀ y∈(_:List (Str×NameKind)),y.2 = NameKind.free→(defScope s_l_is_side).names.lookup y.1 = some NameKind.cell∨(defScope s_l_is_side).names.lookup y.1 = some NameKind.free;decide +kernel)) (pe_lst pa_nil) (nomark _))
        (pss_one (ps_ret pe_bl))
        pss_nil)
      (pss_one (ps_ret (pe_and (pe_cmpR op_in_seq (pv 1) (pv 3) rfl) (pe_one (pe_cmpR op_notIn_seq (pv 2) (pv 3) rfl))))))),?_⟩
    extract_lets +lift
    have fl:∀ ss:List Str,D.flat (.lst (ss.map D.str)) = true:=fun ss=>by
      show D.flats (ss.map D.str) = true
      exact flats_strs ss
    have dep:∀ ss:List Str,D.dep (.lst (ss.map D.str))≤8:=fun ss=>by
      have:=deps_strs ss
      simp only [D.dep]
      omega
    have hsl:(sortS R).length = R.length:=sortS_len R
    refine ⟨_,rfl,_,_,"list",rfl,.lst (SqL.of hB) Reps.strs,rfl,_,rfl,iteF ⟨_,rfl,_,rfl,b,sortS R,rfl,SqL.of hB,by omega,fun p1 hp1=>?_⟩⟩
    rw [sortS_idem]
    have S1:=Same.updN (o:=.lst ((sortS R).map V.str)) hp1
    refine ⟨b,p1,_,_,rfl,rfl,.lst (SqL.of (S1 _ _ hB)) Reps.strs,.lst (SqL.of upd_same) Reps.strs,.same (fl _),dep _,_,rfl,iteF ?_⟩
    have hB1:=S1 _ _ hB
    have hN1:=hN.sm S1.sm
    generalize upd H p1 (.lst ((sortS R).map V.str)) = H1 at S1 hB1 hN1
    refine ⟨_,rfl,b,sortS R,rfl,SqL.of hB1,sortS_nodup hRn,by omega,_,rfl,_,(sortS R).length,rfl,.inl ⟨_,SqL.of hB1,by simp⟩,rfl,_,rfl,iteB (fun h=>absurd h (by simp)) (fun _=>?_)⟩
    refine ⟨_,rfl,b,rfl,⟨_,SqL.of hB1⟩,comp_inv (sortS R).length (fun j ys H4=>H4 = H1∧ys = []) ⟨rfl,rfl⟩ (fun j ys H4 pv=>?_) (fun j ys H4 hj pv=>?_) (fun ys H4 pv=>?_)⟩
    · obtain ⟨_,rfl⟩:=pv
      exact szl (by decide)
    · obtain ⟨rfl,rfl⟩:=pv
      obtain ⟨x,hx⟩:∃ x,(sortS R)[j]? = some x:=⟨_,List.getElem?_eq_getElem hj⟩
      refine ⟨⟨_,.str x,SqL.of hB1,by rw [List.getElem?_map,hx];rfl⟩,?_⟩
      rintro v H5 ⟨rfl,hv⟩
      have hv:=hv _ (SqL.of hB1)
      rw [List.getElem?_map,hx] at hv
      cases hv
      obtain ⟨b2,hb2⟩:=addrOf_some (bs:=bs) (x:=x) (hRk x (mem_sortS.mp (List.mem_of_getElem? hx)))
      exact ⟨_,rfl,_,rfl,a,_,rfl,hN1.dget hb2,_,rfl,iteF (nxC hj ⟨rfl,rfl⟩)⟩
    · obtain ⟨rfl,rfl⟩:=pv
      refine ⟨⟨_,SqL.of hB1,by rw [List.length_map];exact Nat.le_refl _⟩,fun l1 hl1=>?_⟩
      have S2:=Same.updN (o:=.lst []) hl1
      refine ⟨(by decide),fun l2 hl2=>?_⟩
      have S3:=Same.updN (o:=.lst []) hl2
      refine ⟨l1,l2,.lst [],.lst [],rfl,rfl,.lst (SqL.of (S3 _ _ upd_same)) .nil,.lst (SqL.of upd_same) .nil,.same rfl,(by decide),_,rfl,iteF ?_⟩
      have S4:=S2.trans S3
      have hB4:=S4 _ _ hB1
      have m1:one∈sortS R:=mem_sortS.mpr h1
      have m2:other∉sortS R:=fun c=>h2 (mem_sortS.mp c)
      refine ⟨_,rfl,_,rfl,b,_,rfl,.inl (SqL.of hB4),rfl,flat_strs _,_,rfl,iteB (fun _=>?_) (fun h=>absurd m1 (by simpa [inV_strs] using h))⟩
      refine ⟨_,rfl,_,rfl,b,_,rfl,.inl (SqL.of hB4),rfl,flat_strs _,?_⟩
      show Q (V.bl (!inV (.str other) ((sortS R).map V.str))) _
      rw [inV_strs,decide_eq_false m2]
      exact q _ (S1.trans S4)
end
end K15
namespace K15
open PySem L2 PySem.Spec PyProof.Rows
section
variable {P:Program} {w:World} {K:PySem.W.Frag} {mg:Str→Option Value} {base:Heap} {t:Adr}
inductive Sp_cross12  (vs:List V) (H:Hp) (Q:VK):Prop
  | mk (a b:Addr) (bs:Outer) (g:Str→L2.Row) (ss:List Str):(vs = [.ref a,.ref b])→(NetR H a bs g)→(RowsIn (bs.map (·.1)) g)→(H b = some (.lst (ss.map V.str)))→(∀ H',Same H H'→Q (.int (sumL (bs.map (·.1)) fun x=>if x∈ss then rowOut (g x) ss else 0)) H')→Sp_cross12  vs H Q
def sp_cross12 :Sp:=fun vs H Q _=>Sp_cross12  vs H Q
theorem ok_l_crossing (T:Txt K mg t):FnOk P w K mg base CX0 1 t.l_crossing t.fd_l_crossing ["_law_net_here","_law_side"] sp_cross12:=by
  refine T.f_l_crossing.fn.ok sc_l_crossing (fun vs H Q E h=>?_) (fun cdv A outer s H vs Q E hr h=>?_)
  · obtain ⟨a,b,bs,g,ss,rfl,_⟩:=h;rfl
  · obtain ⟨a,b,bs,g,ss,rfl,hN,hg,hB,q⟩:=h
    have hu:=hu_of hr
    refine ltX ?_
    intro X' D'
    refine ⟨_,(pss_consL (ps_set (i:=2) sc_l_crossing.nd rfl (Or.inl rfl) pe_int)
      (pss_consL (ps_forD PassesOwn.never rfl (pv 0) (pg_name (i:=3) sc_l_crossing.nd rfl (Or.inl rfl))
        (pss_one (ps_forD PassesOwn.never rfl (pe_dget hu (pv 0) (pv 3) (fun _ _=>rfl)) (pg_name (i:=4) sc_l_crossing.nd rfl (Or.inl rfl))
        (pss_one (ps_ifL (PW.pt (pw_and (pt_cmpR op_in_seq (pv 3) (pv 1) rfl) (pw_and1 (pt_cmpR op_notIn_seq (pv 4) (pv 1) rfl))))
        (pss_one (ps_set (i:=2) sc_l_crossing.nd rfl (Or.inl rfl) (pe_op op_add (pv 2) (pe_dget hu (pe_dget hu (pv 0) (pv 3) (fun _ _=>rfl)) (pv 4) (fun _ _=>rfl)))))
        pss_nil)))))
      (pss_one (ps_ret (pv 2))))),?_⟩
    extract_lets +lift
    have nb:∀ {c:Addr} {l:List (Key×V)},Rd H c (.dK l)→b≠c:=fun h e=>by rcases h with z | ⟨_,z⟩ <;> rw [← e,hB] at z <;> cases z
    refine ⟨_,rfl,a,_,rfl,hN.out,fun o H2 fz=>(let I'1:Nat→L2.St→Hp→Prop:=fun i σ H3=>∃ tot x3 x4,σ = [some (.ref a),some (.ref b),some (.int tot),x3,x4]∧tot = (sumL ((bs.map (·.1)).take i) fun x=>if x∈ss then rowOut (g x) ss else 0)∧H3 b = some (.lst (ss.map V.str));forD hN.out fz I'1 ⟨_,_,_,rfl,rfl,hB⟩ (fun i σ H3 H4 e pv=>?_) (fun i k v σ H3 hk fs pv=>?_) (fun σ H3 S3 pv=>?_))⟩
    · obtain ⟨tot,x3,x4,rfl,ht,hb⟩:=pv
      exact ⟨tot,x3,x4,rfl,ht,by rw [e b (nb hN.out)];exact hb⟩
    · obtain ⟨tot,x3,x4,rfl,ht,hb⟩:=pv
      obtain ⟨z,hzi,rfl,rfl⟩:∃ z,bs[i]? = some z∧k = Sum.inr z.1∧v = .ref z.2:=by
        unfold encO at hk
        rw [List.getElem?_map] at hk
        cases e:bs[i]? with
        | none=>rw [e] at hk;cases hk
        | some z=>rw [e] at hk;cases hk;exact ⟨z,rfl,rfl,rfl⟩
      have hz:z∈bs:=List.mem_of_getElem? hzi
      have had:=mem_addrOf hN.ks (x:=z.1) (b:=z.2) hz
      have hzm:z.1∈bs.map (·.1):=List.mem_map.mpr ⟨z,hz,rfl⟩
      have hN3:=hN.sm (fs.sm hN.out)
      have hrow:=hN3.inn _ (addrOf_mem had)
      refine ⟨_,rfl,_,rfl,a,.ref z.2,rfl,hN3.dget had,z.2,_,rfl,hrow,fun o2 H4 fz2=>(let I'2:Nat→L2.St→Hp→Prop:=fun j σ H5=>∃ tot2 x4,σ = [some (.ref a),some (.ref b),some (.int tot2),some (.str z.1),x4]∧tot2 = tot + (if z.1∈ss then rowOut ((g z.1).take j) ss else 0)∧H5 b = some (.lst (ss.map V.str));forD hrow fz2 I'2 ⟨_,_,rfl,?_,hb⟩ (fun j σ H5 H6 e pv=>?_) (fun j k v σ H5 hk2 fs2 pv=>?_) (fun σ H5 S5 pv=>?_))⟩
      · show tot = tot + if z.1∈ss then (0:Int) else 0
        split <;> omega
      · obtain ⟨tot2,x4,rfl,ht2,hb5⟩:=pv
        exact ⟨tot2,x4,rfl,ht2,by rw [e b (fun e=>by rcases hrow with q | ⟨_,q⟩ <;> rw [← e,hb] at q <;> cases q)];exact hb5⟩
      · obtain ⟨tot2,x4,rfl,ht2,hb5⟩:=pv
        obtain ⟨y,n,hy,rfl⟩:∃ y n,(g z.1)[j]? = some (y,n)∧k = Sum.inr y:=by
          unfold encI at hk2
          rw [List.getElem?_map] at hk2
          cases e:(g z.1)[j]? with
          | none=>rw [e] at hk2;cases hk2
          | some q=>rw [e] at hk2;cases hk2;exact ⟨q.1,q.2,rfl,rfl⟩
        have hN5:=hN3.sm (fs2.sm hrow)
        have hv:look (g z.1) y = some n:=mem_look (hg.nd z.1 hzm) (List.mem_of_getElem? hy)
        have e1:rowOut ((g z.1).take (j + 1)) ss = rowOut ((g z.1).take j) ss + (if y∈ss then 0 else n):=by
          rw [List.take_add_one,hy]
          unfold rowOut
          rw [sumL_snoc]
        refine ⟨_,rfl,_,rfl,b,_,rfl,.inl (SqL.of hb5),rfl,flat_strs ss,_,rfl,iteB (fun h1=>?_) (fun h1=>?_)⟩
        · have h1:z.1∈ss:=by simpa [inV_strs,kV] using h1
          rw [if_pos h1] at ht2
          refine ⟨_,rfl,_,rfl,b,_,rfl,.inl (SqL.of hb5),rfl,flat_strs ss,_,rfl,iteB (fun h2=>?_) (fun h2=>?_)⟩
          · have h2:y∉ss:=by simpa [inV_strs,kV] using h2
            refine ⟨_,rfl,_,rfl,_,rfl,a,_,rfl,hN5.dget had,_,rfl,z.2,_,rfl,hN5.rget' had hv,_,_,rfl,rfl,fs2,_,_,rfl,?_,hb5⟩
            rw [if_pos h1,e1,if_neg h2]
            show tot2 + n = _
            omega
          · have h2:y∈ss:=by simpa [inV_strs,kV] using h2
            refine ⟨fs2,_,_,rfl,?_,hb5⟩
            rw [if_pos h1,e1,if_pos h2]
            omega
        · have h1:z.1∉ss:=by simpa [inV_strs,kV] using h1
          refine ⟨fs2,_,_,rfl,?_,hb5⟩
          rw [if_neg h1] at ht2 ⊢
          exact ht2
      · obtain ⟨tot2,x4,rfl,ht2,hb5⟩:=pv
        rw [encI_len,List.take_length] at ht2
        refine ⟨fs.same S5,_,_,_,rfl,?_,hb5⟩
        have:(bs.map (·.1))[i]? = some z.1:=by rw [List.getElem?_map,hzi];rfl
        rw [List.take_add_one,this,sumL_snoc,ht2,ht]
    · obtain ⟨tot,x3,x4,rfl,ht,hb⟩:=pv
      have el:(encO bs).length = (bs.map (·.1)).length:=by unfold encO;simp
      rw [el,List.take_length] at ht
      subst ht
      exact ⟨_,rfl,q H3 S3⟩
end
end K15
namespace K15
open PySem L2 PySem.Spec PyProof.Rows
section
variable {P:Program} {w:World} {K:PySem.W.Frag} {mg:Str→Option Value} {base:Heap} {t:Adr}
def crS (ks:List Str) (g:Str→L2.Row) (ss:List Str):Int:=sumL ks fun x=>if x∈ss then rowOut (g x) ss else 0
inductive Sp_lleast  (vs:List V) (H:Hp) (Q:VK):Prop
  | mk (a b:Addr) (bs:Outer) (g:Str→L2.Row) (one:Str) (ss:List Str):(vs = [.ref a,.str one,.ref b])→(NetR H a bs g)→(RowsIn (bs.map (·.1)) g)→(H b = some (.lst (ss.map V.str)))→(ss.length≤12)→((∀ y∈ss,y≠one→crS (bs.map (·.1)) g ss < crS (bs.map (·.1)) g (ss.filter fun x=>decide (x≠y))))→(∀ H',Same H H'→Q (.bl true) H')→Sp_lleast  vs H Q
def sp_lleast :Sp:=fun vs H Q _=>Sp_lleast  vs H Q
theorem ok_l_least (T:Txt K mg t):FnOk P w K mg base CX0 2 t.l_least t.fd_l_least ["_law_net_here","_law_one","_law_side"] sp_lleast:=by
  refine T.f_l_least.fn.ok sc_l_least (fun vs H Q E h=>?_) (fun cdv A outer s H vs Q E hr h=>?_)
  · obtain ⟨a,b,bs,g,one,ss,rfl,_⟩:=h;rfl
  · obtain ⟨a,b,bs,g,one,ss,rfl,hN,hg,hB,hl,hlt,q⟩:=h
    have hu:=hu_of hr
    refine ltX ?_
    intro X' D'
    refine ⟨_,(pss_consL (ps_forL PassesOwn.never rfl (pi_list (pv 2)) (pg_name (i:=3) sc_l_least.nd rfl (Or.inr rfl))
        (pss_one (ps_ifL (pt_cmpR op_ne (pv 3) (pv 1) (nomark _))
        (pss_consL (ps_setC (i:=4) ["_law_name"] [3] rfl sc_l_least.nd rfl rfl (pi_list (pv 2)) (fun _ _ _ _ _=>(pg_name (i:=0) (show (["_law_name","_law_place"]:List Str).Nodup by decide +kernel) rfl (Or.inl rfl))) (fun _ _ _ _ _=>(pif_one (pt_cmpR op_ne (pv 0) (pv 1) (nomark _)))) (fun _ _ _ _ _=>(pv 0)) ⟨⟨_,rfl,rfl,.inl rfl⟩,trivial⟩ (hfr:=by show ∀ y∈(_:List (Str×NameKind)),y.2 = NameKind.free→(defScope s_l_least).names.lookup y.1 = some NameKind.cell∨(defScope s_l_least).names.lookup y.1 = some NameKind.free;decide +kernel))
      (pss_one (ps_ifL (pt_cmpR op_le (pe_call (ok_l_crossing T) (hr.mono (by decide)) rfl T.f_l_crossing.mg T.f_l_crossing.kp T.f_l_crossing.bd .nil pass0 (pa_cons (pv 0) (pa_cons (pv 4) pa_nil))) (pe_call (ok_l_crossing T) (hr.mono (by decide)) rfl T.f_l_crossing.mg T.f_l_crossing.kp T.f_l_crossing.bd .nil pass0 (pa_cons (pv 0) (pa_cons (pv 2) pa_nil))) (nomark _))
        (pss_one (ps_ret pe_bl))
        pss_nil)))
        pss_nil)))
      (pss_one (ps_ret pe_bl))),?_⟩
    extract_lets +lift
    refine ⟨_,rfl,b,rfl,⟨_,SqL.of hB⟩,(let I'1:Nat→L2.St→Hp→Prop:=fun i σ H2=>∃ x3 x4,σ = [some (.ref a),some (.str one),some (.ref b),x3,x4]∧Same H H2;for_list (xs:=ss.map V.str) I'1 ⟨_,_,rfl,Same.refl _⟩ (fun i σ H2 _ pv=>?_) (fun i x σ H2 hx pv=>?_) (fun σ H2 pv=>?_))⟩
    · obtain ⟨_,_,rfl,S⟩:=pv
      exact SqL.of (S _ _ hB)
    · obtain ⟨x3,x4,rfl,S2⟩:=pv
      rw [List.getElem?_map] at hx
      cases hk:ss[i]? with
      | none=>rw [hk] at hx;cases hx
      | some y =>
      rw [hk] at hx
      cases hx
      have hym:=List.mem_of_getElem? hk
      refine ⟨_,rfl,_,rfl,rfl,_,rfl,iteB (fun hb=>?_) (fun hb=>⟨_,_,rfl,S2⟩)⟩
      have hne:y≠one:=by simpa using hb
      have hB2:=S2 _ _ hB
      refine ⟨_,rfl,b,rfl,⟨_,SqL.of hB2⟩,(let I'2:Nat→List V→Hp→Prop:=fun j ys H4=>H4 = H2∧ys = ((ss.take j).filter fun x=>decide (x≠y)).map V.str;comp_inv ss.length I'2 ⟨rfl,rfl⟩ (fun j ys H4 pv=>?_) (fun j ys H4 hj pv=>?_) (fun ys H4 pv=>?_))⟩
      · obtain ⟨_,rfl⟩:=pv
        rw [List.length_map]
        refine szl ?_
        have:=List.length_filter_le (fun x=>decide (x≠y)) (ss.take j)
        rw [List.length_take] at this
        omega
      · obtain ⟨rfl,rfl⟩:=pv
        obtain ⟨x,hx⟩:∃ x,ss[j]? = some x:=⟨_,List.getElem?_eq_getElem hj⟩
        refine ⟨⟨_,.str x,SqL.of hB2,by rw [List.getElem?_map,hx];rfl⟩,?_⟩
        rintro v H10 ⟨rfl,hv⟩
        have hv:=hv _ (SqL.of hB2)
        rw [List.getElem?_map,hx] at hv
        cases hv
        refine ⟨_,rfl,_,rfl,rfl,_,rfl,iteB (fun hb=>?_) (fun hb=>?_)⟩
        · have hb:x≠y:=by simpa using hb
          refine ⟨_,rfl,nxC hj ⟨rfl,?_⟩⟩
          rw [List.take_add_one,hx,List.filter_append,List.map_append]
          simp [hb]
        · have hb:x = y:=by simpa using hb
          refine nxC hj ⟨rfl,?_⟩
          rw [List.take_add_one,hx,List.filter_append,List.map_append]
          simp [hb]
      · obtain ⟨rfl,rfl⟩:=pv
        rw [List.take_length]
        refine ⟨⟨_,SqL.of hB2,by rw [List.length_map];exact Nat.le_refl _⟩,fun op hop=>?_⟩
        have S3:=Same.updN (o:=.lst ((ss.filter fun x=>decide (x≠y)).map V.str)) hop
        have hO:(upd H4 op (.lst ((ss.filter fun x=>decide (x≠y)).map V.str))) op = some (.lst ((ss.filter fun x=>decide (x≠y)).map V.str)):=upd_same
        have T3:=S2.trans S3
        generalize upd H4 op (.lst ((ss.filter fun x=>decide (x≠y)).map V.str)) = H3 at S3 hO T3 ⊢
        refine ⟨_,rfl,_,rfl,a,op,bs,g,_,rfl,hN.sm T3.sm,hg,hO,fun H5 S5=>?_⟩
        have T5:=T3.trans S5
        refine ⟨_,rfl,_,rfl,a,b,bs,g,ss,rfl,hN.sm T5.sm,hg,T5 _ _ hB,fun H6 S6=>?_⟩
        have hh:=hlt y hym hne
        unfold crS at hh
        refine ⟨_,_,rfl,rfl,_,rfl,iteD (fun h=>by omega) (fun _=>⟨_,_,rfl,T5.trans S6⟩)⟩
    · obtain ⟨x3,x4,rfl,S2⟩:=pv
      exact q _ S2
end
end K15
namespace K15
open PySem L2 PySem.Spec PyProof.Rows
section
variable {P:Program} {w:World} {K:PySem.W.Frag} {mg:Str→Option Value} {base:Heap} {t:Adr}
inductive Sp_hasline  (vs:List V) (H:Hp) (Q:VK):Prop
  | mk (a:Addr) (bs:Outer) (f:Str→L2.Row) (x y:Str):(vs = [.ref a,.str x,.str y])→(NetR H a bs f)→(Q (.bl (!badP (bs.map (·.1)) f (x,y))) H)→Sp_hasline  vs H Q
def sp_hasline :Sp:=fun vs H Q _=>Sp_hasline  vs H Q
theorem ok_has_line (T:Txt K mg t):FnOk P w K mg base CX0 2 t.has_line t.fd_has_line ["net","one","other"] sp_hasline:=by
  refine T.f_has_line.fn.ok sc_has_line (fun vs H Q E h=>?_) (fun cdv A outer s H vs Q E hr h=>?_)
  · obtain ⟨a,bs,f,x,y,rfl,_⟩:=h;rfl
  · obtain ⟨a,bs,f,x,y,rfl,hN,q⟩:=h
    have hu:=hu_of hr
    refine ltX ?_
    intro X' D'
    refine ⟨_,(pss_one (ps_ret (pe_and (pe_call (ok_has_place T) (hr.mono (by decide)) rfl T.f_has_place.mg T.f_has_place.kp T.f_has_place.bd .nil pass0 (pa_cons (pv 0) (pa_cons (pv 1) pa_nil))) (pe_one (pe_call (ok_has_place T) (hr.mono (by decide)) rfl T.f_has_place.mg T.f_has_place.kp T.f_has_place.bd .nil pass0 (pa_cons (pe_dget hu (pv 0) (pv 1) (fun _ _=>rfl)) (pa_cons (pv 2) pa_nil))))))),?_⟩
    refine ⟨_,rfl,_,rfl,a,_,_,.str x,rfl,hN.out,.str x,_,rfl,?_⟩
    by_cases hx:x∈bs.map (·.1)
    · obtain ⟨b,hb⟩:=addrOf_some hx
      rw [show hasD (encO bs) (.str x) = true by show (valV (encO bs) (Sum.inr x)).isSome = true;rw [valV_encO,hb];rfl]
      refine iteT ⟨_,rfl,_,rfl,a,_,rfl,hN.dget hb,_,rfl,b,_,_,.str y,rfl,hN.inn _ (addrOf_mem hb),.str y,?_⟩
      have e:hasD (encI (f x)) (.str y) = !badP (bs.map (·.1)) f (x,y):=by
        show (valV (encI (f x)) (Sum.inr y)).isSome = _
        rw [valV_enc,Option.isSome_map]
        unfold badP
        rw [decide_eq_true hx];simp
      rw [e];exact q
    · have e0:hasD (encO bs) (.str x) = false:=by show (valV (encO bs) (Sum.inr x)).isSome = false;rw [valV_encO,addrOf_none.mpr hx];rfl
      have e:(!badP (bs.map (·.1)) f (x,y)) = false:=by unfold badP;rw [decide_eq_false hx];rfl
      rw [e] at q
      rw [e0]
      exact iteF q
theorem cut_first {w:List Str} {x:Str} (h:w[0]? = some x):cutV (w.map V.str) none (some 1) = [x].map V.str:=by
  cases w with
  | nil=>cases h
  | cons a l =>
    cases h
    unfold cutV
    rw [HT.sIx_none,sIx_of (by decide),List.drop_zero,List.length_map]
    have:min (1:Int).toNat (x :: l).length = 1:=by show min 1 _ = 1;rw [List.length_cons];omega
    rw [this]
    rfl
theorem cut_last {w:List Str} {k:Nat} {x:Str} (hl:w.length = k + 1) (h:w[k]? = some x):cutV (w.map V.str) (some (-1)) none = [x].map V.str:=by
  unfold cutV
  have e:HT.sIx (w.map V.str).length 0 (some (-1)) = k:=by
    rw [List.length_map,hl]
    show (if (-1:Int) < 0 then ((-1:Int) + ((k + 1:Nat):Int)).toNat else min (-1:Int).toNat (k + 1)) = k
    rw [if_pos (by decide)]
    omega
  rw [e,HT.sIx_none,List.length_map,hl,← List.map_drop,← List.map_take]
  congr 1
  refine List.ext_getElem? fun j=>?_
  rw [List.getElem?_take]
  cases j with
  | zero=>rw [if_pos (by omega),List.getElem?_drop,Nat.add_zero,h];rfl
  | succ j=>rw [if_neg (by omega)];rfl
theorem cut_tail (w:List Str):cutV (w.map V.str) (some 1) none = (w.drop 1).map V.str:=by
  unfold cutV
  rw [HT.sIx_none,sIx_of (by decide),List.length_map,← List.map_drop,← List.map_take]
  congr 1
  cases w with
  | nil=>rfl
  | cons a l =>
    have:min (1:Int).toNat (a :: l).length = 1:=by show min 1 _ = 1;rw [List.length_cons];omega
    rw [this]
    exact List.take_of_length_le (by rw [List.length_drop];omega)
inductive Sp_pisroute  (vs:List V) (H:Hp) (Q:VK):Prop
  | mk (a b:Addr) (bs:Outer) (g:Str→L2.Row) (one other:Str) (m:Int) (w:List Str) (k:Nat):(vs = [.ref a,.str one,.str other,.int m,.ref b])→(NetR H a bs g)→(H b = some (.lst (w.map V.str)))→(1≤m)→(Wy (bs.map (·.1)) one other w k)→(w.length≤12)→((∀ x y,(x,y)∈stL w→(look (g x) y).isSome = true))→(∀ H',Same H H'→Q (.bl true) H')→Sp_pisroute  vs H Q
def sp_pisroute :Sp:=fun vs H Q _=>Sp_pisroute  vs H Q
theorem ok_is_route (T:Txt K mg t):FnOk P w K mg base CX0 3 t.is_route t.fd_is_route ["net","one","other","many","places"] sp_pisroute:=by
  refine T.f_is_route.fn.ok sc_is_route (fun vs H Q E h=>?_) (fun cdv A outer s H vs Q E hr h=>?_)
  · obtain ⟨a,b,bs,g,one,other,m,w,k,rfl,_⟩:=h;rfl
  · obtain ⟨a,b,bs,g,one,other,m,w,k,rfl,hN,hB,hm,wy,hw12,hst,q⟩:=h
    have hu:=hu_of hr
    refine ltX ?_
    intro X' D'
    refine ⟨_,(pss_consL (ps_ifL (PW.pt (pw_or (pt_cmpR op_lt (pv 3) pe_int (nomark _)) (pw_or (pt_cmpR (op_neSs hu) (pe_slice sl_list (pv 4) po_none (po_some pe_int)) (pe_lst (pa_cons (pv 1) pa_nil)) (nomark _)) (pw_or1 (pt_cmpR (op_neSs hu) (pe_slice sl_list (pv 4) (po_some (pe_un un_neg pe_int)) po_none) (pe_lst (pa_cons (pv 2) pa_nil)) (nomark _))))))
        (pss_one (ps_ret pe_bl))
        pss_nil)
      (pss_consL (ps_ifL (pt_cmpR op_ne (pe_lenset (K:=K) rfl rfl rfl T.b_len rfl T.b_set (pa_cons (pv 4) pa_nil)) (pe_callB call_len (by rfl) T.b_len boot_len' (pa_cons (pv 4) pa_nil)) (nomark _))
        (pss_one (ps_ret pe_bl))
        pss_nil)
      (pss_one (ps_ret (pe_callB call_all (by rfl) T.b_all boot_all' (pa_cons (pe_comp ["here","there"] [0] rfl (pi_zip rfl T.b_zip (pa_cons (pv 4) (pa_cons (pe_slice sl_list (pv 4) (po_some pe_int) po_none) pa_nil))) (fun _ _ _ _ _=>(pg_twoK (K:=K) rfl (i:=0) (j:=1) rfl (show (["here","there","net"]:List Str).Nodup by decide +kernel) rfl rfl (Or.inl rfl) (Or.inl rfl))) (fun _ _ _ _ _=>pif_nil) (fun _ _ _ _ _=>(pe_call (ok_has_line T) (hr.mono (by decide)) rfl T.f_has_line.mg T.f_has_line.kp T.f_has_line.bd .nil pass0 (pa_cons (pv 2) (pa_cons (pv 0) (pa_cons (pv 1) pa_nil))))) ⟨⟨_,rfl,rfl,.inl rfl⟩,trivial⟩ (hfr:=by show ∀ y∈(_:List (Str×NameKind)),y.2 = NameKind.free→(defScope s_is_route).names.lookup y.1 = some NameKind.cell∨(defScope s_is_route).names.lookup y.1 = some NameKind.free;decide +kernel)) pa_nil)))))),?_⟩
    extract_lets +lift
    have hl:=wy.len
    refine ⟨_,rfl,_,_,rfl,rfl,_,rfl,iteD (fun h=>by omega) (fun _=>?_)⟩
    refine ⟨_,rfl,_,rfl,b,_,rfl,SqL.of hB,fun p1 hp1=>?_⟩
    rw [cut_first wy.fst]
    have S1:=Same.updN (o:=.lst ([one].map V.str)) hp1
    have h1:(upd H p1 (.lst ([one].map V.str))) p1 = some (.lst ([one].map V.str)):=upd_same
    generalize upd H p1 (.lst ([one].map V.str)) = H1 at S1 h1 ⊢
    refine ⟨_,rfl,(by show 1≤sizeLine;decide),fun p2 hp2=>?_⟩
    have S2:=Same.updN (o:=.lst [V.str one]) hp2
    refine ⟨p1,p2,[one],[one],rfl,rfl,SqL.of (S2 _ _ h1),SqL.of upd_same,_,rfl,iteB (fun h=>absurd h (by simp)) (fun _=>?_)⟩
    have S3:=S1.trans S2
    generalize upd H1 p2 (.lst [V.str one]) = H2 at S3 ⊢
    refine ⟨_,rfl,_,rfl,_,rfl,b,_,rfl,SqL.of (S3 _ _ hB),fun p3 hp3=>?_⟩
    rw [cut_last hl wy.lst]
    have S4:=Same.updN (o:=.lst ([other].map V.str)) hp3
    have h4:(upd H2 p3 (.lst ([other].map V.str))) p3 = some (.lst ([other].map V.str)):=upd_same
    generalize upd H2 p3 (.lst ([other].map V.str)) = H4 at S4 h4 ⊢
    refine ⟨_,rfl,(by show 1≤sizeLine;decide),fun p4 hp4=>?_⟩
    have S5:=Same.updN (o:=.lst [V.str other]) hp4
    refine ⟨p3,p4,[other],[other],rfl,rfl,SqL.of (S5 _ _ h4),SqL.of upd_same,_,rfl,iteB (fun h=>absurd h (by simp)) (fun _=>?_)⟩
    have S6:=(S3.trans S4).trans S5
    generalize upd H4 p4 (.lst [V.str other]) = H5 at S6 ⊢
    have hB5:=S6 _ _ hB
    refine ⟨_,rfl,b,w,rfl,SqL.of hB5,wy.nd,by omega,_,rfl,_,w.length,rfl,.inl ⟨_,SqL.of hB5,by simp⟩,rfl,_,rfl,iteB (fun h=>absurd h (by simp)) (fun _=>?_)⟩
    refine ⟨_,rfl,_,rfl,_,rfl,b,_,rfl,SqL.of hB5,fun sp hsp=>?_⟩
    rw [cut_tail]
    have S7:=Same.updN (o:=.lst ((w.drop 1).map V.str)) hsp
    have hsp1:(upd H5 sp (.lst ((w.drop 1).map V.str))) sp = some (.lst ((w.drop 1).map V.str)):=upd_same
    have T1:=S6.trans S7
    generalize upd H5 sp (.lst ((w.drop 1).map V.str)) = H6 at T1 hsp1 ⊢
    have hB6:=T1 _ _ hB
    have hmin:min (w.map V.str).length ((w.drop 1).map V.str).length = w.length - 1:=by simp only [List.length_map,List.length_drop];omega
    refine ⟨b,sp,_,_,rfl,SqL.of hB6,SqL.of hsp1,(let I'1:Nat→List V→Hp→Prop:=fun i ys H7=>Same H6 H7∧i≤w.length - 1∧ys = (List.replicate i true).map V.bl;comp_inv (w.length - 1) I'1 ⟨Same.refl _,Nat.zero_le _,rfl⟩ (fun i ys H7 pv=>?_) (fun i ys H7 hi pv=>?_) (fun ys H7 pv=>?_))⟩
    · obtain ⟨_,h1,rfl⟩:=pv
      rw [List.length_map,List.length_replicate];exact szl (by omega)
    · obtain ⟨S8,_,rfl⟩:=pv
      refine ⟨⟨SqL.of (S8 _ _ hB6),SqL.of (S8 _ _ hsp1),by rw [hmin];exact hi⟩,?_⟩
      rintro v H8 ⟨pp,x,y,hpp,rfl,hx,hy,rfl⟩
      rw [List.getElem?_map] at hx hy
      rw [List.getElem?_drop] at hy
      cases hx':w[i]? with
      | none=>rw [hx'] at hx;cases hx
      | some x' =>
      rw [hx'] at hx
      cases hx
      cases hy':w[1 + i]? with
      | none=>rw [hy'] at hy;cases hy
      | some y' =>
      rw [hy'] at hy
      cases hy
      have hy'':w[i + 1]? = some y':=by rw [Nat.add_comm];exact hy'
      have hsm:=hst x' y' (stL_mem.mpr ⟨i,hx',hy''⟩)
      have S9:=S8.trans (Same.updN (o:=.tup [V.str x',V.str y']) hpp)
      have hN9:=hN.sm (T1.trans S9).sm
      have hbad:(!badP (bs.map (·.1)) g (x',y')) = true:=by
        unfold badP
        rw [decide_eq_true (wy.mem x' (List.mem_of_getElem? hx')),hsm];rfl
      refine ⟨pp,_,rfl,SqT.of upd_same,rfl,_,_,rfl,_,_,rfl,rfl,yesI ?_⟩
      refine ⟨_,rfl,_,rfl,_,rfl,a,bs,g,x',y',rfl,hN9,?_⟩
      rw [hbad]
      exact nxC hi ⟨S9,by omega,by rw [List.replicate_succ',List.map_append];rfl⟩
    · obtain ⟨S8,_,rfl⟩:=pv
      refine ⟨⟨SqL.of (S8 _ _ hB6),SqL.of (S8 _ _ hsp1),hmin.symm⟩,fun lp hlp=>⟨rfl,lp,_,rfl,SqL.of upd_same,?_⟩⟩
      have e:(List.replicate (w.length - 1) true).all id = true:=by simp
      rw [e]
      exact q _ ((T1.trans S8).trans (Same.updN hlp))
end
end K15
namespace K15
open PySem L2 PySem.Spec PyProof.Rows
section
variable {P:Program} {w:World} {K:PySem.W.Frag} {mg:Str→Option Value} {base:Heap} {t:Adr}
inductive Sp_isroute  (vs:List V) (H:Hp) (Q:VK):Prop
  | mk (a b:Addr) (bs:Outer) (g:Str→L2.Row) (one other:Str) (w:List Str) (k:Nat):(vs = [.ref a,.str one,.str other,.ref b])→(NetR H a bs g)→(H b = some (.lst (w.map V.str)))→(Wy (bs.map (·.1)) one other w k)→(1≤k)→(w.length≤12)→((∀ x y,(x,y)∈stL w→(look (g x) y).isSome = true))→(∀ H',Same H H'→Q (.bl true) H')→Sp_isroute  vs H Q
def sp_isroute :Sp:=fun vs H Q _=>Sp_isroute  vs H Q
theorem ok_l_is_route (T:Txt K mg t):FnOk P w K mg base CX0 1 t.l_is_route t.fd_l_is_route ["_law_net_here","_law_one","_law_other","_law_places"] sp_isroute:=by
  refine T.f_l_is_route.fn.ok sc_l_is_route (fun vs H Q E h=>?_) (fun cdv A outer s H vs Q E hr h=>?_)
  · obtain ⟨a,b,bs,g,one,other,w,k,rfl,_⟩:=h;rfl
  · obtain ⟨a,b,bs,g,one,other,w,k,rfl,hN,hB,wy,hk1,hw12,hst,q⟩:=h
    have hu:=hu_of hr
    refine ltX ?_
    intro X' D'
    refine ⟨_,(pss_consL (ps_ifL (PW.pt (pw_or (pt_cmpR op_lt (pe_callB call_len (by rfl) T.b_len boot_len' (pa_cons (pv 3) pa_nil)) pe_int (nomark _)) (pw_or (pt_cmpR op_ne (pe_ix ix_list (pv 3) pe_int (fun _ _=>rfl)) (pv 1) (nomark _)) (pw_or (pt_cmpR op_ne (pe_ix ix_list (pv 3) (pe_un un_neg pe_int) (fun _ _=>rfl)) (pv 2) (nomark _)) (pw_or1 (pt_cmpR op_ne (pe_lenset (K:=K) rfl rfl rfl T.b_len rfl T.b_set (pa_cons (pv 3) pa_nil)) (pe_callB call_len (by rfl) T.b_len boot_len' (pa_cons (pv 3) pa_nil)) (nomark _)))))))
        (pss_one (ps_ret pe_bl))
        pss_nil)
      (pss_consL (ps_forL PassesOwn.never rfl (pi_range2 rfl T.b_range (pa_cons pe_int (pa_cons (pe_callB call_len (by rfl) T.b_len boot_len' (pa_cons (pv 3) pa_nil)) pa_nil))) (pg_name (i:=4) sc_l_is_route.nd rfl (Or.inl rfl))
        (pss_one (ps_ifL (PW.pt (pw_or (pt_cmp (pc_dnotin hu (pe_ix ix_list (pv 3) (pe_op op_sub (pv 4) pe_int) (fun _ _=>rfl)) (pv 0))) (pw_or1 (pt_cmp (pc_dnotin hu (pe_ix ix_list (pv 3) (pv 4) (fun _ _=>rfl)) (pe_dget hu (pv 0) (pe_ix ix_list (pv 3) (pe_op op_sub (pv 4) pe_int) (fun _ _=>rfl)) (fun _ _=>rfl)))))))
        (pss_one (ps_ret pe_bl))
        pss_nil)))
      (pss_one (ps_ret pe_bl)))),?_⟩
    extract_lets +lift
    have hl:=wy.len
    have at0:atI (w.map V.str) 0 = some (.str one):=atI_nat (j:=0) (by rw [List.getElem?_map,wy.fst];rfl)
    have atl:atI (w.map V.str) (-1) = some (.str other):=by
      have hll:(w.map V.str).length = k + 1:=by rw [List.length_map];exact hl
      unfold atI ixN
      rw [hll,if_neg (by decide),if_pos (by omega)]
      have:((-1:Int) + ((k + 1:Nat):Int)).toNat = k:=by omega
      rw [this]
      show (w.map V.str)[k]? = _
      rw [List.getElem?_map,wy.lst];rfl
    refine ⟨_,rfl,_,w.length,rfl,.inl ⟨_,SqL.of hB,by simp⟩,_,_,rfl,rfl,_,rfl,iteD (fun h=>by omega) (fun _=>?_)⟩
    refine ⟨_,rfl,b,_,_,.str one,rfl,rfl,SqL.of hB,at0,_,rfl,rfl,_,rfl,iteB (fun h=>absurd h (by simp)) (fun _=>?_)⟩
    refine ⟨_,rfl,_,rfl,b,_,_,.str other,rfl,rfl,SqL.of hB,atl,_,rfl,rfl,_,rfl,iteB (fun h=>absurd h (by simp)) (fun _=>?_)⟩
    refine ⟨_,rfl,b,w,rfl,SqL.of hB,wy.nd,by omega,_,rfl,_,w.length,rfl,.inl ⟨_,SqL.of hB,by simp⟩,rfl,_,rfl,iteB (fun h=>absurd h (by simp)) (fun _=>?_)⟩
    refine ⟨_,rfl,_,w.length,rfl,.inl ⟨_,SqL.of hB,by simp⟩,_,_,rfl,⟨by omega,by omega,by omega,by omega⟩,?_⟩
    refine (let I'1:Nat→L2.St→Hp→Prop:=fun i σ H2=>∃ x4,σ = [some (.ref a),some (.str one),some (.str other),some (.ref b),x4]∧H2 = H;for_range (n:=((w.length:Int) - 1).toNat) I'1 ⟨_,rfl,rfl⟩ (fun i σ H2 hi pv=>?_) (fun σ H2 pv=>?_))
    · obtain ⟨x4,rfl,rfl⟩:=pv
      obtain ⟨x,hx⟩:∃ x,w[i]? = some x:=⟨_,List.getElem?_eq_getElem (by omega)⟩
      obtain ⟨y,hy⟩:∃ y,w[i + 1]? = some y:=⟨_,List.getElem?_eq_getElem (by omega)⟩
      have ax:atI (w.map V.str) (1 + (i:Int) - 1) = some (.str x):=by
        rw [show (1 + (i:Int) - 1) = (i:Int) by omega]
        exact atI_nat (by rw [List.getElem?_map,hx];rfl)
      have ay:atI (w.map V.str) (1 + (i:Int)) = some (.str y):=by
        rw [show (1 + (i:Int)) = ((i + 1:Nat):Int) by omega]
        exact atI_nat (by rw [List.getElem?_map,hy];rfl)
      obtain ⟨b1,hb1⟩:=addrOf_some (bs:=bs) (x:=x) (wy.mem x (List.mem_of_getElem? hx))
      obtain ⟨v,hv⟩:=Option.isSome_iff_exists.mp (hst x y (stL_mem.mpr ⟨i,hx,hy⟩))
      refine ⟨_,rfl,_,rfl,_,_,rfl,rfl,b,_,_,.str x,rfl,rfl,SqL.of hB,ax,_,rfl,a,_,rfl,hN.dget hb1,_,rfl,iteF ?_⟩
      refine ⟨_,rfl,_,rfl,b,_,_,.str y,rfl,rfl,SqL.of hB,ay,_,rfl,_,rfl,_,rfl,_,_,rfl,rfl,b,_,_,.str x,rfl,rfl,SqL.of hB,ax,a,_,rfl,hN.dget hb1,b1,_,rfl,hN.rget' hb1 hv,_,rfl,iteF ?_⟩
      exact ⟨_,rfl,rfl⟩
    · obtain ⟨x4,rfl,rfl⟩:=pv
      exact q _ (Same.refl _)
end
end K15
namespace K15
open PySem L2 PySem.Spec PyProof.Rows
section
variable {P:Program} {w:World} {K:PySem.W.Frag} {mg:Str→Option Value} {base:Heap} {t:Adr}
theorem FsT.sm {o:Obj} {a:Addr} {kvs:List (List Key×V)} {H1 H:Hp} (f:FsT o a kvs H1 H) (h:H1 a = some (.dT kvs)):Sm H1 H:=by
  have key:∀ (b:Addr) (u:HO),(∀ l,u≠.dT l)→(∀ z y,u≠.frz z y)→Rd H1 b u→Rd H b u:=fun b u h1 h2 hr=>by
    have ne:b≠a:=fun e=>by
      subst e
      rcases hr with q | ⟨z,q⟩ <;> rw [h] at q
      · exact h1 _ (Option.some.inj q).symm
      · cases q
    rcases hr with q | ⟨z,q⟩
    · exact .inl (f.rest b _ ne q)
    · exact .inr ⟨z,f.rest b _ ne q⟩
  exact ⟨fun b xs=>key b _ (by simp) (by simp),fun b xs=>key b _ (by simp) (by simp),fun b xs=>key b _ (by simp) (by simp)⟩
theorem valV_in {κ:Type} [DecidableEq κ] {kvs:List (κ×V)} {p:κ×V} (h:p∈kvs):valV kvs p.1≠none:=fun e=>by
  have:=valV_any p.1 kvs
  rw [e] at this
  have t:(kvs.any fun kv=>decide (kv.1 = p.1)) = true:=List.any_eq_true.mpr ⟨p,h,by simp⟩
  rw [t] at this
  cases this
inductive Sp_come  (vs:List V) (H:Hp) (Q:VK):Prop
  | mk (a b:Addr) (bs:Outer) (g:Str→L2.Row) (one other:Str) (zs:Rz) (H0:Hp):(vs = [.ref a,.str one,.str other,.ref b])→(NetR H a bs g)→(RtAt H0 H b zs)→(zs.length≤144)→(bs.length≤12)→((∀ z∈zs,1≤z.2.2.1∧(∃ k,1≤k∧Wy (bs.map (·.1)) one other z.2.2.2 k)∧∀ x y,(x,y)∈stL z.2.2.2→(look (g x) y).isSome = true))→((∀ x∈bs.map (·.1),∀ y∈bs.map (·.1),(look (g x) y).isSome = (look (g y) x).isSome))→((∀ x∈bs.map (·.1),∀ y∈bs.map (·.1),useA (rtR zs) x y + useA (rtR zs) y x≤rc g x y))→(∀ H',Same H H'→Q (.int (sumL (rtR zs) fun e=>e.1)) H')→Sp_come  vs H Q
def sp_come :Sp:=fun vs H Q _=>Sp_come  vs H Q
theorem ok_l_come_to (T:Txt K mg t):FnOk P w K mg base CX0 2 t.l_come_to t.fd_l_come_to ["_law_net_here","_law_one","_law_other","_law_routes"] sp_come:=by
  refine T.f_l_come_to.fn.ok sc_l_come_to (fun vs H Q E h=>?_) (fun cdv A outer s H vs Q E hr h=>?_)
  · obtain ⟨a,b,bs,g,one,other,zs,H0,rfl,_⟩:=h;rfl
  · obtain ⟨a,b,bs,g,one,other,zs,H0,rfl,hN,hR,hzl,hbl,hway,hsy,huse,q⟩:=h
    have hu:=hu_of hr
    have hu1:(A.deeper _).units < cLine:=Nat.lt_of_succ_lt (hu_of hr)
    refine ltX ?_
    intro X' D'
    refine ⟨_,(pss_consL (ps_set (i:=4) sc_l_come_to.nd rfl (Or.inl rfl) pe_dnewT)
      (pss_consL (ps_set (i:=5) sc_l_come_to.nd rfl (Or.inl rfl) pe_int)
      (pss_consL (ps_forL PassesOwn.never rfl (pi_list (pv 3)) (pg_tup rfl (pgs_cons (pg_name (i:=6) sc_l_come_to.nd rfl (Or.inl rfl)) (pgs_cons (pg_name (i:=7) sc_l_come_to.nd rfl (Or.inl rfl)) pgs_nil)))
        (pss_consL (ps_ifL (PW.pt (pw_or (pt_not (pt_val (pe_call (ok_l_is_route T) (hr.mono (by decide)) rfl T.f_l_is_route.mg T.f_l_is_route.kp T.f_l_is_route.bd .nil pass0 (pa_cons (pv 0) (pa_cons (pv 1) (pa_cons (pv 2) (pa_cons (pv 7) pa_nil))))))) (pw_or1 (pt_cmpR op_lt (pv 6) pe_int (nomark _)))))
        (pss_one (ps_ret pe_non))
        pss_nil)
      (pss_consL (ps_set (i:=5) sc_l_come_to.nd rfl (Or.inl rfl) (pe_op op_add (pv 5) (pv 6)))
      (pss_one (ps_forL PassesOwn.never rfl (pi_range2 rfl T.b_range (pa_cons pe_int (pa_cons (pe_callB call_len (by rfl) T.b_len boot_len' (pa_cons (pv 7) pa_nil)) pa_nil))) (pg_name (i:=8) sc_l_come_to.nd rfl (Or.inl rfl))
        (pss_consL (ps_set (i:=9) sc_l_come_to.nd rfl (Or.inl rfl) (pe_tup (pa_cons (pe_callB (call_min2s rfl) (by rfl) T.b_min boot_min' (pa_cons (pe_ix ix_list (pv 7) (pe_op op_sub (pv 8) pe_int) (fun _ _=>rfl)) (pa_cons (pe_ix ix_list (pv 7) (pv 8) (fun _ _=>rfl)) pa_nil))) (pa_cons (pe_callB (call_max2s rfl) (by rfl) T.b_max boot_max' (pa_cons (pe_ix ix_list (pv 7) (pe_op op_sub (pv 8) pe_int) (fun _ _=>rfl)) (pa_cons (pe_ix ix_list (pv 7) (pv 8) (fun _ _=>rfl)) pa_nil))) pa_nil))))
      (pss_one (ps_dput hu (pv 4) (pv 9) (pe_op op_add (pe_dget2 hu (pv 4) (pv 9) pe_int ⟨rfl,rfl,rfl,rfl⟩) (pv 6)) rfl))))))))
      (pss_consL (ps_forDT PassesOwn.never rfl (pv 4) (pg_name (i:=9) sc_l_come_to.nd rfl (Or.inl rfl))
        (pss_one (ps_ifL (pt_cmpR op_gt (pe_dget hu (pv 4) (pv 9) (fun _ _=>rfl)) (pe_dget hu (pe_dget hu (pv 0) (pe_ix ix_tup (pv 9) pe_int (fun _ _=>rfl)) (fun _ _=>rfl)) (pe_ix ix_tup (pv 9) pe_int (fun _ _=>rfl)) (fun _ _=>rfl)) (nomark _))
        (pss_one (ps_ret pe_non))
        pss_nil)))
      (pss_one (ps_ret (pv 5))))))),?_⟩
    extract_lets +lift
    intro u hu0
    have S1:=Same.updN (o:=.dT []) hu0
    have hU1:(upd H u (.dT [])) u = some (.dT []):=upd_same
    generalize upd H u (.dT []) = H1 at S1 hU1
    have hrl:(rtR zs).length = zs.length:=by unfold rtR;rw [List.length_map]
    generalize hks:bs.map (·.1) = ks at *
    have hkl:ks.length≤12:=by rw [← hks,List.length_map];exact hbl
    refine ⟨_,rfl,b,rfl,⟨_,SqL.of ((hR.same S1).out)⟩,(let I'1:Nat→L2.St→Hp→Prop:=fun i σ H2=>∃ x6 x7 x8 x9 tot kvs,σ = [some (.ref a),some (.str one),some (.str other),some (.ref b),some (.ref u),some (.int tot),x6,x7,x8,x9]∧Same H H2∧H2 u = some (.dT kvs)∧kvs.length≤12 * i∧tot = (sumL ((rtR zs).take i) fun e=>e.1)∧UD kvs (fun x y=>useA ((rtR zs).take i) x y + useA ((rtR zs).take i) y x) (fun x y=>x∈ks∧y∈ks∧(look (g x) y).isSome = true);for_list (xs:=rtV zs) I'1 ⟨_,_,_,_,_,[],rfl,S1,hU1,Nat.zero_le _,rfl,UD.nil fun _ _=>rfl⟩ (fun i σ H2 _ pv=>?_) (fun i x σ H2 hx pv=>?_) (fun σ H2 pv=>?_))⟩
    · obtain ⟨_,_,_,_,_,_,rfl,hS,_⟩:=pv
      exact SqL.of (hS _ _ hR.out)
    · obtain ⟨x6,x7,x8,x9,tot,kvs,rfl,hS,hU,hkv,ht,ud⟩:=pv
      unfold rtV at hx
      rw [List.getElem?_map] at hx
      cases hk:zs[i]? with
      | none=>rw [hk] at hx;cases hx
      | some z =>
      rw [hk] at hx
      cases hx
      have hz:=List.mem_of_getElem? hk
      have h1:=hS _ _ (hR.tp z hz)
      have h2:=hS _ _ (hR.ws z hz)
      obtain ⟨hm1,⟨k,hk1,wy⟩,hst⟩:=hway z hz
      have hil:i < 144:=by have:=(List.getElem?_eq_some_iff.mp hk).1;omega
      have hw12:z.2.2.2.length≤12:=Nat.le_trans (nd_len wy.nd wy.mem) hkl
      refine ⟨z.1,_,rfl,SqT.of h1,rfl,_,_,rfl,_,_,rfl,rfl,?_⟩
      have hN2:=hN.sm hS.sm
      refine ⟨_,rfl,_,rfl,_,rfl,_,rfl,a,z.2.1,bs,g,one,other,z.2.2.2,k,rfl,hN2,h2,by rw [hks];exact wy,hk1,hw12,hst,fun H3 S3=>?_⟩
      refine ⟨_,rfl,iteF ?_⟩
      refine ⟨_,rfl,_,_,rfl,rfl,_,rfl,iteD (fun h=>by omega) (fun _=>?_)⟩
      refine ⟨_,rfl,_,rfl,_,_,rfl,rfl,?_⟩
      have T3:=hS.trans S3
      have hU3:=S3 _ _ hU
      have hw3:=S3 _ _ h2
      have hN3:=hN.sm T3.sm
      have hwl:((z.2.2.2.length:Int) - 1).toNat = k:=by rw [wy.len];omega
      refine ⟨_,rfl,_,z.2.2.2.length,rfl,.inl ⟨_,SqL.of hw3,by simp⟩,_,_,rfl,⟨by omega,by omega,by omega,by omega⟩,?_⟩
      have htk:(rtR zs).take (i + 1) = (rtR zs).take i ++ [z.2.2]:=by
        have:(rtR zs)[i]? = some z.2.2:=by unfold rtR;rw [List.getElem?_map,hk];rfl
        rw [List.take_add_one,this];rfl
      refine (let I'2:Nat→L2.St→Hp→Prop:=fun j σ H4=>∃ x8 x9 kvs,σ = [some (.ref a),some (.str one),some (.str other),some (.ref b),some (.ref u),some (.int (tot + z.2.2.1)),some (.int z.2.2.1),some (.ref z.2.1),x8,x9]∧Same H H4∧H4 u = some (.dT kvs)∧kvs.length≤12 * i + j∧UD kvs (fun x y=>useA ((rtR zs).take i) x y + useA ((rtR zs).take i) y x + stepU z.2.2.1 z.2.2.2 j x y) (fun x y=>x∈ks∧y∈ks∧(look (g x) y).isSome = true);for_range (n:=((z.2.2.2.length:Int) - 1).toNat) I'2 ⟨_,_,kvs,rfl,T3,hU3,by omega,ud.congr fun x y=>by rw [stepU_zero];omega⟩ (fun j σ H4 hj pv=>?_) (fun σ H4 pv=>?_))
      · obtain ⟨x8,x9,kvs,rfl,S4,hU4,hkv4,ud4⟩:=pv
        rw [hwl] at hj
        have hw4:=S4 _ _ (hR.ws z hz)
        obtain ⟨x,hx⟩:∃ x,z.2.2.2[j]? = some x:=⟨_,List.getElem?_eq_getElem (by rw [wy.len];omega)⟩
        obtain ⟨y,hy⟩:∃ y,z.2.2.2[j + 1]? = some y:=⟨_,List.getElem?_eq_getElem (by rw [wy.len];omega)⟩
        have ax:atI (z.2.2.2.map V.str) (1 + (j:Int) - 1) = some (.str x):=by
          rw [show (1 + (j:Int) - 1) = (j:Int) by omega]
          exact atI_nat (by rw [List.getElem?_map,hx];rfl)
        have ay:atI (z.2.2.2.map V.str) (1 + (j:Int)) = some (.str y):=by
          rw [show (1 + (j:Int)) = ((j + 1:Nat):Int) by omega]
          exact atI_nat (by rw [List.getElem?_map,hy];rfl)
        have hxy:x≠y:=fun e=>by subst e;have:=nd_ix wy.nd hx hy;omega
        have mx:=wy.mem x (List.mem_of_getElem? hx)
        have my:=wy.mem y (List.mem_of_getElem? hy)
        have hsl:=stL_get.mpr ⟨hx,hy⟩
        have hsm:=hst x y (List.mem_of_getElem? hsl)
        refine ⟨_,rfl,_,rfl,_,_,rfl,rfl,z.2.1,_,_,.str x,rfl,rfl,SqL.of hw4,ax,_,rfl,_,rfl,z.2.1,_,_,.str y,rfl,rfl,SqL.of hw4,ay,x,y,rfl,?_⟩
        refine ⟨_,rfl,_,rfl,_,_,rfl,rfl,z.2.1,_,_,.str x,rfl,rfl,SqL.of hw4,ax,_,rfl,_,rfl,z.2.1,_,_,.str y,rfl,rfl,SqL.of hw4,ay,x,y,rfl,(by show 2≤sizeLine;decide),fun lp hlp=>?_⟩
        have kl:kvs.length < sizeLine:=lt_two24 (by omega)
        have S5:=Same.updN (o:=.tup [V.str (if decide (cs y < cs x) then y else x),V.str (if decide (cs x < cs y) then y else x)]) hlp
        have hU5:=S5 _ _ hU4
        have T5:=S4.trans S5
        have hlp5:(upd H4 lp (.tup [V.str (if decide (cs y < cs x) then y else x),V.str (if decide (cs x < cs y) then y else x)])) lp = some (.tup [V.str (if decide (cs y < cs x) then y else x),V.str (if decide (cs x < cs y) then y else x)]):=upd_same
        generalize upd H4 lp (.tup [V.str (if decide (cs y < cs x) then y else x),V.str (if decide (cs x < cs y) then y else x)]) = H5 at S5 hU5 T5 hlp5 ⊢
        have fin:∀ lo hi,cs lo < cs hi→lo∈ks→hi∈ks→(look (g lo) hi).isSome = true→(lo = x∧hi = y∨lo = y∧hi = x)→H5 lp = some (.tup ((lineK lo hi).map kV))→UD (putK kvs (lineK lo hi) (.int (useA ((rtR zs).take i) lo hi + useA ((rtR zs).take i) hi lo + stepU z.2.2.1 z.2.2.2 j lo hi + z.2.2.1))) (fun x y=>useA ((rtR zs).take i) x y + useA ((rtR zs).take i) y x + stepU z.2.2.1 z.2.2.2 (j + 1) x y) (fun x y=>x∈ks∧y∈ks∧(look (g x) y).isSome = true):=fun lo hi hl m1 m2 hs hc _=>by
          refine ud4.put hl ⟨m1,m2,hs⟩ ?_ fun x' y' hxy' hne=>?_
          · rcases hc with ⟨rfl,rfl⟩ | ⟨rfl,rfl⟩
            · rw [stepU_succ wy.nd hsl hxy];omega
            · rw [stepU_comm _ _ _ lo hi,stepU_comm _ _ _ lo hi,stepU_succ wy.nd hsl hxy];omega
          · rw [stepU_other hsl]
            · rintro ⟨rfl,rfl⟩
              rcases hc with ⟨rfl,rfl⟩ | ⟨rfl,rfl⟩
              · exact hne ⟨rfl,rfl⟩
              · exact List.lt_irrefl _ (List.lt_trans hl hxy')
            · rintro ⟨rfl,rfl⟩
              rcases hc with ⟨rfl,rfl⟩ | ⟨rfl,rfl⟩
              · exact List.lt_irrefl _ (List.lt_trans hl hxy')
              · exact hne ⟨rfl,rfl⟩
        have go:∃ lo hi,cs lo < cs hi∧lo∈ks∧hi∈ks∧(look (g lo) hi).isSome = true∧(lo = x∧hi = y∨lo = y∧hi = x)∧H5 lp = some (.tup ((lineK lo hi).map kV)):=by
          rcases min_max hxy with ⟨c,e1,e2⟩ | ⟨c,e1,e2⟩ <;> rw [e1,e2] at hlp5
          · exact ⟨x,y,c,mx,my,hsm,.inl ⟨rfl,rfl⟩,hlp5⟩
          · exact ⟨y,x,c,my,mx,by rw [hsy y my x mx];exact hsm,.inr ⟨rfl,rfl⟩,hlp5⟩
        obtain ⟨lo,hi,hl,m1,m2,hs,hc,hk5⟩:=go
        have ud5:=fin lo hi hl m1 m2 hs hc hk5
        have hget:(valV kvs (lineK lo hi)).getD (.int 0) = .int (useA ((rtR zs).take i) lo hi + useA ((rtR zs).take i) hi lo + stepU z.2.2.1 z.2.2.2 j lo hi):=by
          rcases ud4.get lo hi hl with c | ⟨c,d⟩
          · rw [c];rfl
          · rw [c,d];rfl
        refine ⟨_,rfl,u,rfl,.inr ⟨_,.inl hU5⟩,_,rfl,valV kvs (lineK lo hi),.inr ⟨kvs,lineK lo hi,lp,.inl hU5,rfl,hk5,rfl⟩,_,rfl,_,_,hget,rfl,_,rfl,_,rfl,u,_,rfl,DPut.t hU5 hk5 kl,?_⟩
        exact ⟨_,_,_,rfl,T5.upd hu0,upd_same,Nat.le_trans (length_putK _ _ _) (by omega),ud5⟩
      · obtain ⟨x8,x9,kvs,rfl,S4,hU4,hkv4,ud4⟩:=pv
        rw [hwl] at hkv4 ud4
        refine ⟨_,_,_,_,_,kvs,rfl,S4,hU4,?_,?_,ud4.congr fun x y=>?_⟩
        · have:=wy.len;omega
        · rw [htk,sumL_app,ht];simp [sumL]
        · rw [htk,useA_snoc,useA_snoc,stepU_all _ _ wy.len];omega
    · obtain ⟨x6,x7,x8,x9,tot,kvs,rfl,hS,hU,hkv,ht,ud⟩:=pv
      have el:(rtV zs).length = (rtR zs).length:=by unfold rtV rtR;simp
      rw [el,List.take_length] at ht ud
      refine ⟨_,rfl,u,kvs,rfl,.inl hU,fun o H3 fz=>(let I'3:Nat→L2.St→Hp→Prop:=fun i σ H4=>∃ x9,σ = [some (.ref a),some (.str one),some (.str other),some (.ref b),some (.ref u),some (.int tot),x6,x7,x8,x9];forDT (.inl hU) fz I'3 ⟨_,rfl⟩ (fun i σ H4 H5 e pv=>pv) (fun i k v lb σ H4 hk hlb fs pv=>?_) (fun σ H4 S4 pv=>?_))⟩
      · obtain ⟨x9,rfl⟩:=pv
        have hm:=List.mem_of_getElem? hk
        obtain ⟨x,y,e,⟨mx,my,hsm⟩,hlt⟩:=ud.ent _ hm
        cases e
        have hval:valV kvs (lineK x y) = some (.int (useA (rtR zs) x y + useA (rtR zs) y x)):=by
          rcases ud.get x y hlt with c | ⟨c,_⟩
          · exact c
          · exact absurd c (valV_in hm)
        have hN4:=(hN.sm hS.sm).sm (FsT.sm fs hU)
        obtain ⟨b1,hb1⟩:=addrOf_some (bs:=bs) (x:=x) (by rw [hks];exact mx)
        obtain ⟨n,hn⟩:=Option.isSome_iff_exists.mp hsm
        have hle:=huse x mx y my
        have en:rc g x y = n:=by unfold rc;rw [hn];rfl
        refine ⟨_,rfl,_,rfl,u,_,rfl,.inr ⟨kvs,lineK x y,lb,.inr ⟨o,fs.held⟩,rfl,hlb,hval.symm⟩,?_⟩
        refine ⟨_,rfl,_,rfl,lb,_,_,.str x,rfl,rfl,SqT.of hlb,rfl,a,_,rfl,hN4.dget hb1,_,rfl,lb,_,_,.str y,rfl,rfl,SqT.of hlb,rfl,b1,_,rfl,hN4.rget' hb1 hn,_,_,rfl,rfl,_,rfl,iteD (fun h=>by omega) (fun _=>?_)⟩
        exact ⟨fs,_,rfl⟩
      · obtain ⟨x9,rfl⟩:=pv
        subst ht
        exact ⟨_,rfl,q H4 (hS.trans S4)⟩
end
end K15
namespace K15
open PySem L2 PySem.Spec PyProof.Rows
section
variable {P:Program} {w:World} {K:PySem.W.Frag} {mg:Str→Option Value} {base:Heap} {t:Adr}
inductive Sp_lineof  (vs:List V) (H:Hp) (Q:VK):Prop
  | mk (x y:Str):(vs = [.str x,.str y])→(∀ p,H p = none→Q (.ref p) (upd H p (.tup [.str (if decide (cs y < cs x) then y else x),.str (if decide (cs x < cs y) then y else x)])))→Sp_lineof  vs H Q
def sp_lineof :Sp:=fun vs H Q _=>Sp_lineof  vs H Q
theorem ok_line_of (T:Txt K mg t):FnOk P w K mg base CX0 1 t.line_of t.fd_line_of ["one","other"] sp_lineof:=by
  refine T.f_line_of.fn.ok sc_line_of (fun vs H Q E h=>?_) (fun cdv A outer s H vs Q E hr h=>?_)
  · obtain ⟨x,y,rfl,_⟩:=h;rfl
  · obtain ⟨x,y,rfl,q⟩:=h
    have hu:=hu_of hr
    refine ltX ?_
    intro X' D'
    refine ⟨_,(pss_one (ps_ret (pe_tup (pa_cons (pe_callB (call_min2s rfl) (by rfl) T.b_min boot_min' (pa_cons (pv 0) (pa_cons (pv 1) pa_nil))) (pa_cons (pe_callB (call_max2s rfl) (by rfl) T.b_max boot_max' (pa_cons (pv 0) (pa_cons (pv 1) pa_nil))) pa_nil))))),?_⟩
    refine ⟨_,rfl,_,rfl,_,_,rfl,_,rfl,_,rfl,_,_,rfl,(by show 2≤sizeLine;decide),fun p hp=>q p hp⟩
inductive Sp_keeps  (vs:List V) (H:Hp) (Q:VK):Prop
  | mk (a b:Addr) (bs:Outer) (g:Str→L2.Row) (one other:Str) (zs:Rz):(vs = [.ref a,.ref b])→(NetR H a bs g)→(H b = some (.lst (rtV zs)))→((∀ z∈zs,H z.1 = some (.tup [.int z.2.2.1,.ref z.2.1])))→((∀ z∈zs,H z.2.1 = some (.lst (z.2.2.2.map V.str))))→(zs.length≤144)→(bs.length≤12)→((∀ z∈zs,1≤z.2.2.1∧(∃ k,1≤k∧Wy (bs.map (·.1)) one other z.2.2.2 k)∧∀ x y,(x,y)∈stL z.2.2.2→(look (g x) y).isSome = true))→((∀ x∈bs.map (·.1),∀ y∈bs.map (·.1),(look (g x) y).isSome = (look (g y) x).isSome))→((∀ x∈bs.map (·.1),∀ y∈bs.map (·.1),useA (rtR zs) x y + useA (rtR zs) y x≤rc g x y))→(∀ H',Same H H'→Q (.bl true) H')→Sp_keeps  vs H Q
def sp_keeps :Sp:=fun vs H Q _=>Sp_keeps  vs H Q
theorem ok_keeps_strengths (T:Txt K mg t):FnOk P w K mg base CX0 2 t.keeps_strengths t.fd_keeps_strengths ["net","routes"] sp_keeps:=by
  refine T.f_keeps_strengths.fn.ok sc_keeps_strengths (fun vs H Q E h=>?_) (fun cdv A outer s H vs Q E hr h=>?_)
  · obtain ⟨a,b,bs,g,one,other,zs,rfl,_⟩:=h;rfl
  · obtain ⟨a,b,bs,g,one,other,zs,rfl,hN,hR,htp,hws,hzl,hbl,hway,hsy,huse,q⟩:=h
    have hu:=hu_of hr
    have hu1:(A.deeper _).units < cLine:=Nat.lt_of_succ_lt (hu_of hr)
    refine ltX ?_
    intro X' D'
    refine ⟨_,(pss_consL (ps_set (i:=2) sc_keeps_strengths.nd rfl (Or.inr rfl) pe_dnewT)
      (pss_consL (ps_forL PassesOwn.never rfl (pi_list (pv 1)) (pg_tup rfl (pgs_cons (pg_name (i:=3) sc_keeps_strengths.nd rfl (Or.inl rfl)) (pgs_cons (pg_name (i:=4) sc_keeps_strengths.nd rfl (Or.inl rfl)) pgs_nil)))
        (pss_one (ps_forL PassesOwn.never rfl (pi_zip rfl T.b_zip (pa_cons (pv 4) (pa_cons (pe_slice sl_list (pv 4) (po_some pe_int) po_none) pa_nil))) (pg_tup rfl (pgs_cons (pg_name (i:=5) sc_keeps_strengths.nd rfl (Or.inl rfl)) (pgs_cons (pg_name (i:=6) sc_keeps_strengths.nd rfl (Or.inl rfl)) pgs_nil)))
        (pss_consL (ps_set (i:=7) sc_keeps_strengths.nd rfl (Or.inl rfl) (pe_call (ok_line_of T) (hr.mono (by decide)) rfl T.f_line_of.mg T.f_line_of.kp T.f_line_of.bd .nil pass0 (pa_cons (pv 5) (pa_cons (pv 6) pa_nil))))
      (pss_one (ps_dput hu (pv 2) (pv 7) (pe_op op_add (pe_dget2 hu (pv 2) (pv 7) pe_int ⟨rfl,rfl,rfl,rfl⟩) (pv 3)) rfl))))))
      (pss_one (ps_ret (pe_callB call_all (by rfl) T.b_all boot_all' (pa_cons (pe_comp ["line"] [2,0] rfl (pi_dictT (pv 2)) (fun _ _ _ _ _=>(pg_name (i:=0) (show (["line","used","net"]:List Str).Nodup by decide +kernel) rfl (Or.inl rfl))) (fun _ _ _ _ _=>pif_nil) (fun _ _ _ _ _=>(pe_cmpR op_le (pe_dget hu (pv 1) (pv 0) (fun _ _=>rfl)) (pe_dget hu (pe_dget hu (pv 2) (pe_ix (ix_tupK (K:=K) rfl) (pv 0) pe_int (fun _ _=>rfl)) (fun _ _=>rfl)) (pe_ix (ix_tupK (K:=K) rfl) (pv 0) pe_int (fun _ _=>rfl)) (fun _ _=>rfl)) (nomark _))) ⟨⟨_,rfl,rfl,.inl rfl⟩,⟨⟨_,rfl,rfl,.inl rfl⟩,trivial⟩⟩ (hfr:=by show ∀ y∈(_:List (Str×NameKind)),y.2 = NameKind.free→(defScope s_keeps_strengths).names.lookup y.1 = some NameKind.cell∨(defScope s_keeps_strengths).names.lookup y.1 = some NameKind.free;decide +kernel)) pa_nil)))))),?_⟩
    extract_lets +lift
    intro u hu0
    have S1:=Same.updN (o:=.dT []) hu0
    have hU1:(upd H u (.dT [])) u = some (.dT []):=upd_same
    generalize upd H u (.dT []) = H1 at S1 hU1
    have hrl:(rtR zs).length = zs.length:=by unfold rtR;rw [List.length_map]
    generalize hks:bs.map (·.1) = ks at *
    have hkl:ks.length≤12:=by rw [← hks,List.length_map];exact hbl
    refine ⟨_,rfl,b,rfl,⟨_,SqL.of (S1 _ _ hR)⟩,(let I'1:Nat→L2.St→Hp→Prop:=fun i σ H2=>∃ x3 x4 x5 x6 x7 kvs,σ = [some (.ref a),some (.ref b),some (.ref u),x3,x4,x5,x6,x7]∧Same H H2∧H2 u = some (.dT kvs)∧kvs.length≤12 * i∧UD kvs (fun x y=>useA ((rtR zs).take i) x y + useA ((rtR zs).take i) y x) (fun x y=>x∈ks∧y∈ks∧(look (g x) y).isSome = true);for_list (xs:=rtV zs) I'1 ⟨_,_,_,_,_,[],rfl,S1,hU1,Nat.zero_le _,UD.nil fun _ _=>rfl⟩ (fun i σ H2 _ pv=>?_) (fun i x σ H2 hx pv=>?_) (fun σ H2 pv=>?_))⟩
    · obtain ⟨_,_,_,_,_,_,rfl,hS,_⟩:=pv
      exact SqL.of (hS _ _ hR)
    · obtain ⟨x3,x4,x5,x6,x7,kvs,rfl,hS,hU,hkv,ud⟩:=pv
      unfold rtV at hx
      rw [List.getElem?_map] at hx
      cases hk:zs[i]? with
      | none=>rw [hk] at hx;cases hx
      | some z =>
      rw [hk] at hx
      cases hx
      have hz:=List.mem_of_getElem? hk
      have h1:=hS _ _ (htp z hz)
      have h2:=hS _ _ (hws z hz)
      obtain ⟨hm1,⟨k,hk1,wy⟩,hst⟩:=hway z hz
      have hil:i < 144:=by have:=(List.getElem?_eq_some_iff.mp hk).1;omega
      have hw12:z.2.2.2.length≤12:=Nat.le_trans (nd_len wy.nd wy.mem) hkl
      refine ⟨z.1,_,rfl,SqT.of h1,rfl,_,_,rfl,_,_,rfl,rfl,?_⟩
      refine ⟨_,rfl,_,rfl,_,rfl,z.2.1,_,rfl,SqL.of h2,fun sp hsp=>?_⟩
      rw [cut_tail]
      have S3:=Same.updN (o:=.lst ((z.2.2.2.drop 1).map V.str)) hsp
      have hsp3:(upd H2 sp (.lst ((z.2.2.2.drop 1).map V.str))) sp = some (.lst ((z.2.2.2.drop 1).map V.str)):=upd_same
      generalize upd H2 sp (.lst ((z.2.2.2.drop 1).map V.str)) = H3 at S3 hsp3 ⊢
      have T3:=hS.trans S3
      have hU3:=S3 _ _ hU
      have hw3:=S3 _ _ h2
      have hwl:=wy.len
      have hmin:min (z.2.2.2.map V.str).length ((z.2.2.2.drop 1).map V.str).length = k:=by simp only [List.length_map,List.length_drop];omega
      have htk:(rtR zs).take (i + 1) = (rtR zs).take i ++ [z.2.2]:=by
        have:(rtR zs)[i]? = some z.2.2:=by unfold rtR;rw [List.getElem?_map,hk];rfl
        rw [List.take_add_one,this];rfl
      have spu:sp≠u:=fun e=>by rw [e,hU] at hsp;cases hsp
      refine ⟨z.2.1,sp,_,_,rfl,SqL.of hw3,SqL.of hsp3,(let I'2:Nat→L2.St→Hp→Prop:=fun j σ H4=>∃ x5 x6 x7 kvs,σ = [some (.ref a),some (.ref b),some (.ref u),some (.int z.2.2.1),some (.ref z.2.1),x5,x6,x7]∧Same H H4∧H4 sp = some (.lst ((z.2.2.2.drop 1).map V.str))∧H4 u = some (.dT kvs)∧kvs.length≤12 * i + j∧j≤k∧UD kvs (fun x y=>useA ((rtR zs).take i) x y + useA ((rtR zs).take i) y x + stepU z.2.2.1 z.2.2.2 j x y) (fun x y=>x∈ks∧y∈ks∧(look (g x) y).isSome = true);for_zip (K:=K) I'2 ⟨_,_,_,kvs,rfl,T3,hsp3,hU3,by omega,Nat.zero_le _,ud.congr fun x y=>by rw [stepU_zero];omega⟩ (fun j σ H4 _ pv=>?_) (fun j xv yv pr σ H4 hx hy pv hpr=>?_) (fun σ H4 pv=>?_))⟩
      · obtain ⟨_,_,_,_,rfl,S4,h4,_⟩:=pv
        exact ⟨SqL.of (S4 _ _ (hws z hz)),SqL.of h4⟩
      · obtain ⟨x5,x6,x7,kvs,rfl,S4,hsp4,hU4,hkv4,hjk,ud4⟩:=pv
        rw [List.getElem?_map] at hx hy
        rw [List.getElem?_drop] at hy
        cases hx':z.2.2.2[j]? with
        | none=>rw [hx'] at hx;cases hx
        | some x =>
        rw [hx'] at hx
        cases hx
        cases hy':z.2.2.2[1 + j]? with
        | none=>rw [hy'] at hy;cases hy
        | some y =>
        rw [hy'] at hy
        cases hy
        have hy'':z.2.2.2[j + 1]? = some y:=by rw [Nat.add_comm];exact hy'
        have hjl:j + 1≤k:=by have:=(List.getElem?_eq_some_iff.mp hy'').1;omega
        have hxy:x≠y:=fun e=>by subst e;have:=nd_ix wy.nd hx' hy'';omega
        have mx:=wy.mem x (List.mem_of_getElem? hx')
        have my:=wy.mem y (List.mem_of_getElem? hy'')
        have hsl:=stL_get.mpr ⟨hx',hy''⟩
        have hsm:=hst x y (List.mem_of_getElem? hsl)
        have S11:=Same.updN (o:=.tup [V.str x,V.str y]) hpr
        refine ⟨pr,_,rfl,SqT.of upd_same,rfl,_,_,rfl,_,_,rfl,rfl,?_⟩
        have T11:=S4.trans S11
        have hsp11:=S11 _ _ hsp4
        have hU11:=S11 _ _ hU4
        generalize upd H4 pr (.tup [V.str x,V.str y]) = H11 at S11 T11 hsp11 hU11 ⊢
        refine ⟨_,rfl,_,rfl,x,y,rfl,fun lp hlp=>?_⟩
        have kl:kvs.length < sizeLine:=lt_two24 (by omega)
        have S5:=Same.updN (o:=.tup [V.str (if decide (cs y < cs x) then y else x),V.str (if decide (cs x < cs y) then y else x)]) hlp
        have hU5:=S5 _ _ hU11
        have hsp5:=S5 _ _ hsp11
        have T5:=T11.trans S5
        have hlp5:(upd H11 lp (.tup [V.str (if decide (cs y < cs x) then y else x),V.str (if decide (cs x < cs y) then y else x)])) lp = some (.tup [V.str (if decide (cs y < cs x) then y else x),V.str (if decide (cs x < cs y) then y else x)]):=upd_same
        generalize upd H11 lp (.tup [V.str (if decide (cs y < cs x) then y else x),V.str (if decide (cs x < cs y) then y else x)]) = H5 at S5 hU5 hsp5 T5 hlp5 ⊢
        have fin:∀ lo hi,cs lo < cs hi→lo∈ks→hi∈ks→(look (g lo) hi).isSome = true→(lo = x∧hi = y∨lo = y∧hi = x)→H5 lp = some (.tup ((lineK lo hi).map kV))→UD (putK kvs (lineK lo hi) (.int (useA ((rtR zs).take i) lo hi + useA ((rtR zs).take i) hi lo + stepU z.2.2.1 z.2.2.2 j lo hi + z.2.2.1))) (fun x y=>useA ((rtR zs).take i) x y + useA ((rtR zs).take i) y x + stepU z.2.2.1 z.2.2.2 (j + 1) x y) (fun x y=>x∈ks∧y∈ks∧(look (g x) y).isSome = true):=fun lo hi hl m1 m2 hs hc _=>by
          refine ud4.put hl ⟨m1,m2,hs⟩ ?_ fun x' y' hxy' hne=>?_
          · rcases hc with ⟨rfl,rfl⟩ | ⟨rfl,rfl⟩
            · rw [stepU_succ wy.nd hsl hxy];omega
            · rw [stepU_comm _ _ _ lo hi,stepU_comm _ _ _ lo hi,stepU_succ wy.nd hsl hxy];omega
          · rw [stepU_other hsl]
            · rintro ⟨rfl,rfl⟩
              rcases hc with ⟨rfl,rfl⟩ | ⟨rfl,rfl⟩
              · exact hne ⟨rfl,rfl⟩
              · exact List.lt_irrefl _ (List.lt_trans hl hxy')
            · rintro ⟨rfl,rfl⟩
              rcases hc with ⟨rfl,rfl⟩ | ⟨rfl,rfl⟩
              · exact List.lt_irrefl _ (List.lt_trans hl hxy')
              · exact hne ⟨rfl,rfl⟩
        have go:∃ lo hi,cs lo < cs hi∧lo∈ks∧hi∈ks∧(look (g lo) hi).isSome = true∧(lo = x∧hi = y∨lo = y∧hi = x)∧H5 lp = some (.tup ((lineK lo hi).map kV)):=by
          rcases min_max hxy with ⟨c,e1,e2⟩ | ⟨c,e1,e2⟩ <;> rw [e1,e2] at hlp5
          · exact ⟨x,y,c,mx,my,hsm,.inl ⟨rfl,rfl⟩,hlp5⟩
          · exact ⟨y,x,c,my,mx,by rw [hsy y my x mx];exact hsm,.inr ⟨rfl,rfl⟩,hlp5⟩
        obtain ⟨lo,hi,hl,m1,m2,hs,hc,hk5⟩:=go
        have ud5:=fin lo hi hl m1 m2 hs hc hk5
        have hget:(valV kvs (lineK lo hi)).getD (.int 0) = .int (useA ((rtR zs).take i) lo hi + useA ((rtR zs).take i) hi lo + stepU z.2.2.1 z.2.2.2 j lo hi):=by
          rcases ud4.get lo hi hl with c | ⟨c,d⟩
          · rw [c];rfl
          · rw [c,d];rfl
        refine ⟨_,rfl,u,rfl,.inr ⟨_,.inl hU5⟩,_,rfl,valV kvs (lineK lo hi),.inr ⟨kvs,lineK lo hi,lp,.inl hU5,rfl,hk5,rfl⟩,_,rfl,_,_,hget,rfl,_,rfl,_,rfl,u,_,rfl,DPut.t hU5 hk5 kl,?_⟩
        exact ⟨_,_,_,_,rfl,T5.upd hu0,by rw [upd_ne spu];exact hsp5,upd_same,Nat.le_trans (length_putK _ _ _) (by omega),hjl,ud5⟩
      · obtain ⟨x5,x6,x7,kvs,rfl,S4,hsp4,hU4,hkv4,hjk,ud4⟩:=pv
        rw [hmin] at hkv4 ud4
        refine ⟨_,_,_,_,_,kvs,rfl,S4,hU4,?_,ud4.congr fun x y=>?_⟩
        · omega
        · rw [htk,useA_snoc,useA_snoc,stepU_all _ _ wy.len];omega
    · obtain ⟨x3,x4,x5,x6,x7,kvs,rfl,hS,hU,hkv,ud⟩:=pv
      have el:(rtV zs).length = (rtR zs).length:=by unfold rtV rtR;simp
      rw [el] at hkv
      rw [el,List.take_length] at ud
      refine ⟨_,rfl,u,kvs,rfl,.inl hU,fun o H3 fz=>?_⟩
      have e3:H3 = upd H2 u (.frz o (.dT kvs)):=by
        obtain ⟨h,e | ⟨_,e⟩⟩:=fz
        · rw [e,hU] at h;cases h
        · exact e
      have hh:H3 u = some (.frz o (.dT kvs)):=fz.1
      have T3:Same H H3:=by rw [e3];exact hS.upd hu0
      clear fz e3
      have hN3:=hN.sm T3.sm
      refine (let I'3:Nat→List V→Hp→Prop:=fun j ys H4=>H4 = H3∧j≤kvs.length∧ys = (List.replicate j true).map V.bl;comp_inv kvs.length I'3 ⟨rfl,Nat.zero_le _,rfl⟩ (fun j ys H4 pv=>?_) (fun j ys H4 hj pv=>?_) (fun ys H4 pv=>?_))
      · obtain ⟨_,h,rfl⟩:=pv
        rw [List.length_map,List.length_replicate];exact lt_two24 (by omega)
      · obtain ⟨rfl,_,rfl⟩:=pv
        refine ⟨⟨hh,hj⟩,?_⟩
        rintro v H5 ⟨rfl,k,vv,lb,hk,rfl,hlb⟩
        have hm:=List.mem_of_getElem? hk
        obtain ⟨x,y,e,⟨mx,my,hsm⟩,hlt⟩:=ud.ent _ hm
        cases e
        have hval:valV kvs (lineK x y) = some (.int (useA (rtR zs) x y + useA (rtR zs) y x)):=by
          rcases ud.get x y hlt with c | ⟨c,_⟩
          · exact c
          · exact absurd c (valV_in hm)
        obtain ⟨b1,hb1⟩:=addrOf_some (bs:=bs) (x:=x) (by rw [hks];exact mx)
        obtain ⟨n,hn⟩:=Option.isSome_iff_exists.mp hsm
        have hle:=huse x mx y my
        have en:rc g x y = n:=by unfold rc;rw [hn];rfl
        simp only [gName,tYes,↓reduceIte]
        refine ⟨_,rfl,_,rfl,u,_,rfl,.inr ⟨kvs,lineK x y,lb,.inr ⟨o,hh⟩,rfl,hlb,hval.symm⟩,?_⟩
        refine ⟨_,rfl,_,rfl,lb,_,_,.str x,rfl,rfl,SqT.of hlb,rfl,a,_,rfl,hN3.dget hb1,_,rfl,lb,_,_,.str y,rfl,rfl,SqT.of hlb,rfl,b1,_,rfl,hN3.rget' hb1 hn,_,_,rfl,rfl,?_⟩
        have hd:decide (useA (rtR zs) x y + useA (rtR zs) y x≤n) = true:=decide_eq_true (by omega)
        try dsimp only
        rw [hd]
        exact nxC hj ⟨rfl,hj,by rw [List.replicate_succ',List.map_append];rfl⟩
      · obtain ⟨rfl,_,rfl⟩:=pv
        refine ⟨⟨hh,Nat.le_refl _⟩,fun lp hlp=>⟨rfl,lp,_,rfl,SqL.of upd_same,?_⟩⟩
        have e:(List.replicate kvs.length true).all id = true:=by simp
        rw [e]
        exact q _ (T3.trans (Same.updN hlp))
end
end K15
namespace K15
open PySem L2 PySem.Spec PyProof.Rows
section
variable {P:Program} {w:World} {K:PySem.W.Frag} {mg:Str→Option Value} {base:Heap} {t:Adr}
inductive Sp_linesin (K:PySem.W.Frag) (vs:List V) (H:Hp) (Q:VK):Prop
  | mk (a:Addr) (bs:Outer) (f:Str→L2.Row):(vs = [.ref a])→(NetR H a bs f)→(RowsIn (bs.map (·.1)) f)→(bs.length≤12)→(∀ (p:Addr) (H':Hp),Same H H'→H p = none→LinesAt K H' p (linesF (bs.map (·.1)) f)→(linesF (bs.map (·.1)) f).length≤144→Q (.ref p) H')→Sp_linesin K vs H Q
def sp_linesin (K:PySem.W.Frag):Sp:=fun vs H Q _=>Sp_linesin K vs H Q
theorem ok_lines_in (T:Txt K mg t):FnOk P w K mg base CX0 1 t.lines_in t.fd_lines_in ["net"] (sp_linesin K):=by
  refine T.f_lines_in.fn.ok sc_lines_in (fun vs H Q E h=>?_) (fun cdv A outer s H vs Q E hr h=>?_)
  · obtain ⟨a,bs,f,rfl,_⟩:=h;rfl
  · obtain ⟨a,bs,f,rfl,hN,hg,hlen,q⟩:=h
    have hu:=hu_of hr
    generalize hks:bs.map (·.1) = ks at hg q
    have hkl:ks.length≤12:=by rw [← hks,List.length_map];exact hlen
    refine ltX ?_
    intro X' D'
    refine ⟨_,(pss_consL (ps_set (i:=1) sc_lines_in.nd rfl (Or.inl rfl) (pe_lst pa_nil))
      (pss_consL (ps_forL PassesOwn.never rfl (pi_list (pe_callB call_sortedD (by rfl) T.b_sorted boot_sorted (pa_cons (pv 0) pa_nil))) (pg_name (i:=2) sc_lines_in.nd rfl (Or.inl rfl))
        (pss_one (ps_forL PassesOwn.never rfl (pi_list (pe_callB call_sortedD (by rfl) T.b_sorted boot_sorted (pa_cons (pe_dget hu (pv 0) (pv 2) (fun _ _=>rfl)) pa_nil))) (pg_name (i:=3) sc_lines_in.nd rfl (Or.inl rfl))
        (pss_one (ps_ifL (pt_cmpR op_lt_str (pv 2) (pv 3) (nomark _))
        (pss_one (ps_expr (pe_bm PySem.F.plainAttrs_list PySem.F.slot_list_append PySem.F.type_list_append mt_append (pv 1) (pa_cons (pe_tup (pa_cons (pv 2) (pa_cons (pv 3) (pa_cons (pe_dget hu (pe_dget hu (pv 0) (pv 2) (fun _ _=>rfl)) (pv 3) (fun _ _=>rfl)) pa_nil)))) pa_nil))))
        pss_nil)))))
      (pss_one (ps_ret (pv 1))))),?_⟩
    extract_lets +lift
    refine ⟨(by decide),fun p hp=>?_⟩
    have S1:=Same.updN (o:=.lst []) hp
    refine ⟨_,rfl,rfl,a,_,ks,rfl,(hN.sm S1.sm).out,hks ▸ hN.keys,by omega,fun r hr'=>⟨r,rfl,⟨_,SqL.of upd_same⟩,?_⟩⟩
    have pr:p≠r:=fun e=>by rw [← e,upd_same] at hr';cases hr'
    have hr0:=S1.free hr'
    have S2:=S1.trans (Same.updN (o:=.lst ((sortS ks).map V.str)) hr')
    refine (let I'1:Nat→L2.St→Hp→Prop:=fun i σ H2=>∃ x3 x4 ls,σ = [some (.ref a),some (.ref p),x3,x4]∧Same H H2∧H2 r = some (.lst ((sortS ks).map V.str))∧LinesAt K H2 p ls∧ls = ((sortS ks).take i).flatMap (fun x=>rowL f x (sortS ((f x).map (·.1))))∧ls.length≤12 * i;for_list (xs:=(sortS ks).map V.str) I'1 ?_ (fun i σ H2 hi pv=>?_) (fun i x σ H2 hx pv=>?_) (fun σ H2 pv=>?_))
    · exact ⟨_,_,[],rfl,S2,upd_same,⟨[],by rw [upd_ne pr,upd_same],.nil⟩,rfl,Nat.le_refl _⟩
    · obtain ⟨_,_,_,rfl,_,hR,_⟩:=pv
      exact SqL.of hR
    · obtain ⟨x3,x4,ls,rfl,hS,hR,hLs,hnorm,hll⟩:=pv
      rw [List.getElem?_map] at hx
      cases hk:(sortS ks)[i]? with
      | none=>rw [hk] at hx;cases hx
      | some k =>
      rw [hk] at hx
      cases hx
      have hkm:k∈ks:=mem_sortS.mp (List.mem_of_getElem? hk)
      have hNr:=hN.sm hS.sm
      obtain ⟨b,hb,hbr⟩:=hNr.row (x:=k) (hks ▸ hkm)
      have hrow:((f k).map (·.1)).length≤ks.length:=nd_len (hg.nd k hkm) (hg.inn k hkm)
      refine ⟨_,rfl,_,rfl,a,.ref b,rfl,hNr.dget hb,rfl,b,_,(f k).map (·.1),rfl,hbr,keysS_encI _,by omega,fun r2 hr2=>⟨r2,rfl,⟨_,SqL.of upd_same⟩,?_⟩⟩
      have r2r:r≠r2:=ne_of_none hR hr2
      have T1:=hS.trans (Same.updN (o:=.lst ((sortS ((f k).map (·.1))).map V.str)) hr2)
      refine (let I'2:Nat→L2.St→Hp→Prop:=fun j σ H3=>∃ x4 ls,σ = [some (.ref a),some (.ref p),some (.str k),x4]∧Same H H3∧H3 r = some (.lst ((sortS ks).map V.str))∧H3 r2 = some (.lst ((sortS ((f k).map (·.1))).map V.str))∧LinesAt K H3 p ls∧ls = ((sortS ks).take i).flatMap (fun x=>rowL f x (sortS ((f x).map (·.1)))) ++ rowL f k ((sortS ((f k).map (·.1))).take j)∧ls.length≤12 * i + j;for_list (xs:=(sortS ((f k).map (·.1))).map V.str) I'2 ?_ (fun j σ H3 hj pv=>?_) (fun j x σ H3 hx pv=>?_) (fun σ H3 pv=>?_))
      · refine ⟨_,ls,rfl,T1,by rw [upd_ne r2r];exact hR,upd_same,hLs.same (Same.updN hr2),?_,by omega⟩
        rw [hnorm];simp [rowL]
      · obtain ⟨_,_,rfl,_,_,hR2,_⟩:=pv
        exact SqL.of hR2
      · obtain ⟨x4,ls,rfl,hS3,hR3,hR23,hLs3,hnorm3,hll3⟩:=pv
        rw [List.getElem?_map] at hx
        cases hy:(sortS ((f k).map (·.1)))[j]? with
        | none=>rw [hy] at hx;cases hx
        | some y =>
        rw [hy] at hx
        cases hx
        have hym:y∈(f k).map (·.1):=mem_sortS.mp (List.mem_of_getElem? hy)
        obtain ⟨v,hv⟩:=look_some_iff.mpr hym
        have hj':j < 12:=by
          have:=(List.getElem?_eq_some_iff.mp hy).1
          rw [sortS_len] at this
          omega
        have hi':i < 12:=by
          have:=(List.getElem?_eq_some_iff.mp hk).1
          rw [sortS_len] at this
          omega
        obtain ⟨zs,hz1,hz2⟩:=hLs3
        have hzl:=hz2.length
        rw [List.length_map] at hzl
        have rowtake:rowL f k ((sortS ((f k).map (·.1))).take (j + 1)) = rowL f k ((sortS ((f k).map (·.1))).take j) ++ (if sLt k y then [(k,y,v)] else []):=by
          unfold rowL
          rw [List.take_add_one,hy,List.filter_append,List.map_append]
          congr 1
          by_cases hlt:sLt k y
          · simp [hlt,hv]
          · simp [hlt]
        have hNr3:=hN.sm hS3.sm
        obtain ⟨b',hb',hbr'⟩:=hNr3.row (x:=k) (hks ▸ hkm)
        refine ⟨_,rfl,_,rfl,_,_,rfl,rfl,_,rfl,iteD (fun hlt=>?_) (fun hlt=>?_)⟩
        · have hlt:sLt k y:=hlt
          refine ⟨_,rfl,.inl ⟨rfl,_,SqL.of hz1⟩,_,rfl,_,rfl,_,rfl,_,rfl,a,_,rfl,hNr3.dget hb',_,rfl,b',_,rfl,hNr3.rget' hb' hv,(by show 3≤sizeLine;decide),fun t ht=>⟨p,zs,_,rfl,rfl,(by rw [upd_ne (ne_of_none hz1 ht)];exact hz1),szl (by omega),?_⟩⟩
          refine ⟨_,ls ++ [(k,y,v)],rfl,(hS3.trans (Same.updN ht)).upd hp,?_,?_,LinesAt.snoc hz1 hz2 ht (k,y,v),?_,by simp;omega⟩
          · rw [upd_ne (Ne.symm pr),upd_ne (ne_of_none hR3 ht)];exact hR3
          · have:r2≠p:=fun e=>by
              rw [e] at hr2
              obtain ⟨zz,q1,_⟩:=hLs
              rw [q1] at hr2;cases hr2
            rw [upd_ne this,upd_ne (ne_of_none hR23 ht)];exact hR23
          · rw [hnorm3,rowtake,if_pos hlt,List.append_assoc]
        · have hlt:¬ sLt k y:=hlt
          refine ⟨_,ls,rfl,hS3,hR3,hR23,⟨zs,hz1,hz2⟩,?_,by omega⟩
          rw [hnorm3,rowtake,if_neg hlt,List.append_nil]
      · obtain ⟨x4,ls,rfl,hS3,hR3,hR23,hLs3,hnorm3,hll3⟩:=pv
        refine ⟨_,_,ls,rfl,hS3,hR3,hLs3,?_,?_⟩
        · rw [hnorm3,List.length_map,List.take_of_length_le (Nat.le_refl _),List.take_add_one,hk,List.flatMap_append]
          simp
        · rw [List.length_map,sortS_len] at hll3
          omega
    · obtain ⟨x3,x4,ls,rfl,hS,hR,hLs,hnorm,hll⟩:=pv
      rw [List.length_map,sortS_len] at hll
      rw [List.length_map,List.take_of_length_le (Nat.le_refl _)] at hnorm
      have e:ls = linesF ks f:=hnorm
      subst e
      exact ⟨_,rfl,q p H2 hS hp hLs (by omega)⟩
def crossL (ls:List Ln) (ss:List Str):Int:=sumL (ls.filter fun l=>decide (decide (l.1∈ss)≠decide (l.2.1∈ss))) fun l=>l.2.2
inductive Sp_cr  (vs:List V) (H:Hp) (Q:VK):Prop
  | mk (a b:Addr) (bs:Outer) (f:Str→L2.Row) (ss:List Str):(vs = [.ref a,.ref b])→(NetR H a bs f)→(RowsIn (bs.map (·.1)) f)→(bs.length≤12)→(H b = some (.lst (ss.map V.str)))→(∀ H',Same H H'→Q (.int (crossL (linesF (bs.map (·.1)) f) ss)) H')→Sp_cr  vs H Q
def sp_cr :Sp:=fun vs H Q _=>Sp_cr  vs H Q
theorem ok_crossing_of (T:Txt K mg t):FnOk P w K mg base CX0 2 t.crossing_of t.fd_crossing_of ["net","side"] sp_cr:=by
  refine T.f_crossing_of.fn.ok sc_crossing_of (fun vs H Q E h=>?_) (fun cdv A outer s H vs Q E hr h=>?_)
  · obtain ⟨a,b,bs,f,ss,rfl,_⟩:=h;rfl
  · obtain ⟨a,b,bs,f,ss,rfl,hN,hg,hlen,hB,q⟩:=h
    have hu:=hu_of hr
    refine ltX ?_
    intro X' D'
    refine ⟨_,(pss_one (ps_ret (pe_callB (call_sum rfl) (by rfl) T.b_sum boot_sum' (pa_cons (pe_comp ["one","other","strength"] [1] rfl (pi_list (pe_call (ok_lines_in T) (hr.mono (by decide)) rfl T.f_lines_in.mg T.f_lines_in.kp T.f_lines_in.bd .nil pass0 (pa_cons (pv 0) pa_nil))) (fun _ _ _ _ _=>(pg_threeK (K:=K) rfl (i:=0) (j:=1) (l:=2) rfl (show (["one","other","strength","side"]:List Str).Nodup by decide +kernel) rfl rfl rfl (Or.inl rfl) (Or.inl rfl) (Or.inl rfl))) (fun _ _ _ _ _=>(pif_one (pt_cmpR op_ne (pe_cmpR (op_in_seqK (K:=K) rfl) (pv 0) (pv 3) rfl) (pe_cmpR (op_in_seqK (K:=K) rfl) (pv 1) (pv 3) rfl) (nomark _)))) (fun _ _ _ _ _=>(pv 2)) ⟨⟨_,rfl,rfl,.inl rfl⟩,trivial⟩ (hfr:=by show ∀ y∈(_:List (Str×NameKind)),y.2 = NameKind.free→(defScope s_crossing_of).names.lookup y.1 = some NameKind.cell∨(defScope s_crossing_of).names.lookup y.1 = some NameKind.free;decide +kernel)) pa_nil)))),?_⟩
    refine ⟨_,rfl,a,bs,f,rfl,hN,hg,hlen,fun p H1 S1 hp hL hl=>?_⟩
    obtain ⟨ls,hls⟩:∃ ls,ls = linesF (bs.map (·.1)) f:=⟨_,rfl⟩
    rw [← hls] at hL hl q
    obtain ⟨xs,hx0,hreps⟩:=hL
    have hxl:xs.length = ls.length:=by have:=hreps.length;rw [List.length_map] at this;exact this
    have hB1:=S1 _ _ hB
    refine ⟨p,rfl,⟨_,SqL.of hx0⟩,(let I'3:Nat→List V→Hp→Prop:=fun j ys H2=>H2 = H1∧ys = (((ls.take j).filter fun l=>decide (decide (l.1∈ss)≠decide (l.2.1∈ss))).map fun l=>l.2.2).map V.int;comp_inv xs.length I'3 ⟨rfl,rfl⟩ (fun j ys H2 pv=>?_) (fun j ys H2 hj pv=>?_) (fun ys H2 pv=>?_))⟩
    · obtain ⟨_,rfl⟩:=pv
      rw [List.length_map,List.length_map]
      refine szl ?_
      have:=List.length_filter_le (fun l:Ln=>decide (decide (l.1∈ss)≠decide (l.2.1∈ss))) (ls.take j)
      rw [List.length_take] at this
      omega
    · obtain ⟨rfl,rfl⟩:=pv
      have hxj:xs[j]? = some xs[j]:=List.getElem?_eq_getElem hj
      obtain ⟨l,c,hlj,hc,hT⟩:=Reps.line hreps hxj
      refine ⟨⟨_,_,SqL.of hx0,hxj⟩,?_⟩
      rintro v H3 ⟨rfl,hv⟩
      have hv:=hv _ (SqL.of hx0)
      rw [hxj,hc] at hv
      cases hv
      refine ⟨c,_,rfl,hT,rfl,_,_,rfl,_,_,rfl,_,_,rfl,rfl,?_⟩
      refine ⟨_,rfl,_,rfl,b,_,rfl,.inl (SqL.of hB1),rfl,flat_strs ss,_,rfl,_,rfl,b,_,rfl,.inl (SqL.of hB1),rfl,flat_strs ss,rfl,_,rfl,iteB (fun hb=>?_) (fun hb=>?_)⟩
      · have hb:decide (l.1∈ss)≠decide (l.2.1∈ss):=by simpa [inV_strs] using hb
        refine ⟨_,rfl,nxC hj ⟨rfl,?_⟩⟩
        rw [List.take_add_one,hlj,List.filter_append]
        simp [hb]
      · have hb:decide (l.1∈ss) = decide (l.2.1∈ss):=by simpa [inV_strs] using hb
        refine nxC hj ⟨rfl,?_⟩
        rw [List.take_add_one,hlj,List.filter_append]
        simp [hb]
    · obtain ⟨rfl,rfl⟩:=pv
      rw [hxl,List.take_length]
      refine ⟨⟨_,SqL.of hx0,by omega⟩,fun l1 hl1=>?_⟩
      refine ⟨l1,_,rfl,SqL.of upd_same,?_⟩
      have e:sumL ((ls.filter fun l=>decide (decide (l.1∈ss)≠decide (l.2.1∈ss))).map fun l=>l.2.2) id = crossL ls ss:=by unfold crossL;rw [sumL_map];rfl
      rw [e]
      exact q _ (S1.trans (Same.updN hl1))
end
end K15
namespace K15
open PySem L2 PySem.Spec PyProof.Rows
section
variable {P:Program} {w:World} {K:PySem.W.Frag} {mg:Str→Option Value} {base:Heap} {t:Adr}
inductive Sp_parts  (vs:List V) (H:Hp) (Q:VK):Prop
  | mk (a b:Addr) (bs:Outer) (g:Str→L2.Row) (one other:Str) (R:List Str):(vs = [.ref a,.str one,.str other,.ref b])→(NetR H a bs g)→(H b = some (.lst ((sortS R).map V.str)))→(R.Nodup)→(R.length≤12)→((∀ x∈R,x∈bs.map (·.1)))→(one∈R)→(other∉R)→(∀ H',Same H H'→Q (.bl true) H')→Sp_parts  vs H Q
def sp_parts :Sp:=fun vs H Q _=>Sp_parts  vs H Q
theorem ok_parts_two (T:Txt K mg t):FnOk P w K mg base CX0 1 t.parts_two t.fd_parts_two ["net","one","other","side"] sp_parts:=by
  refine T.f_parts_two.fn.ok sc_parts_two (fun vs H Q E h=>?_) (fun cdv A outer s H vs Q E hr h=>?_)
  · obtain ⟨a,b,bs,g,one,other,R,rfl,_⟩:=h;rfl
  · obtain ⟨a,b,bs,g,one,other,R,rfl,hN,hB,hRn,hRl,hRk,h1,h2,q⟩:=h
    have hu:=hu_of hr
    refine ltX ?_
    intro X' D'
    refine ⟨_,(pss_consL (ps_ifL (PW.pt (pw_or (pt_cmpR (op_neSs hu) (pv 3) (pe_sortset (K:=K) rfl rfl rfl T.b_sorted rfl T.b_set (pa_cons (pv 3) pa_nil)) (nomark _)) (pw_or1 (pt_not (pt_val (pe_callB call_all (by rfl) T.b_all boot_all' (pa_cons (pe_comp ["place"] [0] rfl (pi_list (pv 3)) (fun _ _ _ _ _=>(pg_name (i:=0) (show (["place","net"]:List Str).Nodup by decide +kernel) rfl (Or.inl rfl))) (fun _ _ _ _ _=>pif_nil) (fun _ _ _ _ _=>(pe_cmp (pc_din hu (pv 0) (pv 1)))) ⟨⟨_,rfl,rfl,.inl rfl⟩,trivial⟩ (hfr:=by show ∀ y∈(_:List (Str×NameKind)),y.2 = NameKind.free→(defScope s_parts_two).names.lookup y.1 = some NameKind.cell∨(defScope s_parts_two).names.lookup y.1 = some NameKind.free;decide +kernel)) pa_nil)))))))
        (pss_one (ps_ret pe_bl))
        pss_nil)
      (pss_one (ps_ret (pe_and (pe_cmpR op_in_seq (pv 1) (pv 3) rfl) (pe_one (pe_cmpR op_notIn_seq (pv 2) (pv 3) rfl)))))),?_⟩
    extract_lets +lift
    have hsl:(sortS R).length = R.length:=sortS_len R
    refine ⟨_,rfl,_,rfl,b,sortS R,R,rfl,SqL.of hB,by omega,hRn,fun y=>mem_sortS.symm,fun p1 hp1=>?_⟩
    have S1:=Same.updN (o:=.lst ((sortS R).map V.str)) hp1
    refine ⟨b,p1,sortS R,sortS R,rfl,rfl,SqL.of (S1 _ _ hB),SqL.of upd_same,_,rfl,iteB (fun h=>absurd h (by simp)) (fun _=>?_)⟩
    have hB1:=S1 _ _ hB
    have hN1:=hN.sm S1.sm
    generalize upd H p1 (.lst ((sortS R).map V.str)) = H1 at S1 hB1 hN1
    refine ⟨_,rfl,b,rfl,⟨_,SqL.of hB1⟩,(let I'1:Nat→List V→Hp→Prop:=fun j ys H4=>H4 = H1∧j≤(sortS R).length∧ys = (List.replicate j true).map V.bl;comp_inv (sortS R).length I'1 ⟨rfl,Nat.zero_le _,rfl⟩ (fun j ys H4 pv=>?_) (fun j ys H4 hj pv=>?_) (fun ys H4 pv=>?_))⟩
    · obtain ⟨_,h,rfl⟩:=pv
      rw [List.length_map,List.length_replicate];exact szl (by omega)
    · obtain ⟨rfl,_,rfl⟩:=pv
      obtain ⟨x,hx⟩:∃ x,(sortS R)[j]? = some x:=⟨_,List.getElem?_eq_getElem hj⟩
      refine ⟨⟨_,.str x,SqL.of hB1,by rw [List.getElem?_map,hx];rfl⟩,?_⟩
      rintro v H5 ⟨rfl,hv⟩
      have hv:=hv _ (SqL.of hB1)
      rw [List.getElem?_map,hx] at hv
      cases hv
      obtain ⟨b2,hb2⟩:=addrOf_some (bs:=bs) (x:=x) (hRk x (mem_sortS.mp (List.mem_of_getElem? hx)))
      simp only [gName,tYes,↓reduceIte]
      refine ⟨_,rfl,_,rfl,a,_,rfl,hN1.dget hb2,nxC hj ⟨rfl,hj,?_⟩⟩
      rw [List.replicate_succ',List.map_append];rfl
    · obtain ⟨rfl,_,rfl⟩:=pv
      refine ⟨⟨_,SqL.of hB1,by rw [List.length_map];exact Nat.le_refl _⟩,fun l1 hl1=>?_⟩
      have S2:=Same.updN (o:=.lst ((List.replicate (sortS R).length true).map V.bl)) hl1
      refine ⟨rfl,l1,_,rfl,SqL.of upd_same,?_⟩
      have e:(List.replicate (sortS R).length true).all id = true:=by simp
      rw [e]
      refine ⟨_,rfl,iteF ?_⟩
      have hB4:=S2 _ _ hB1
      have m1:one∈sortS R:=mem_sortS.mpr h1
      have m2:other∉sortS R:=fun c=>h2 (mem_sortS.mp c)
      refine ⟨_,rfl,_,rfl,b,_,rfl,.inl (SqL.of hB4),rfl,flat_strs _,_,rfl,iteB (fun _=>?_) (fun h=>absurd m1 (by simpa [inV_strs] using h))⟩
      refine ⟨_,rfl,_,rfl,b,_,rfl,.inl (SqL.of hB4),rfl,flat_strs _,?_⟩
      show Q (V.bl (!inV (.str other) ((sortS R).map V.str))) _
      rw [inV_strs,decide_eq_false m2]
      exact q _ (S1.trans S2)
end
end K15
namespace K15
open PySem L2 PySem.Spec PyProof.Rows
section
variable {P:Program} {w:World} {K:PySem.W.Frag} {mg:Str→Option Value} {base:Heap} {t:Adr}
inductive Sp_shown  (vs:List V) (H:Hp) (Q:VK):Prop
  | mk (a b c:Addr) (bs:Outer) (g:Str→L2.Row) (one other:Str) (zs:Rz) (R:List Str):(vs = [.ref a,.str one,.str other,.ref b,.ref c])→(NetR H a bs g)→(RowsIn (bs.map (·.1)) g)→(H b = some (.lst (rtV zs)))→((∀ z∈zs,H z.1 = some (.tup [.int z.2.2.1,.ref z.2.1])))→((∀ z∈zs,H z.2.1 = some (.lst (z.2.2.2.map V.str))))→(zs.length≤144)→(bs.length≤12)→((∀ z∈zs,1≤z.2.2.1∧(∃ k,1≤k∧Wy (bs.map (·.1)) one other z.2.2.2 k)∧∀ x y,(x,y)∈stL z.2.2.2→(look (g x) y).isSome = true))→((∀ x∈bs.map (·.1),∀ y∈bs.map (·.1),(look (g x) y).isSome = (look (g y) x).isSome))→((∀ x∈bs.map (·.1),∀ y∈bs.map (·.1),useA (rtR zs) x y + useA (rtR zs) y x≤rc g x y))→(H c = some (.lst ((sortS R).map V.str)))→(R.Nodup)→(R.length≤12)→((∀ x∈R,x∈bs.map (·.1)))→(one∈R)→(other∈bs.map (·.1))→(other∉R)→((sumL (rtR zs) fun e=>e.1) = crossL (linesF (bs.map (·.1)) g) (sortS R))→(∀ H',Same H H'→Q (.bl true) H')→Sp_shown  vs H Q
def sp_shown :Sp:=fun vs H Q _=>Sp_shown  vs H Q
theorem ok_is_shown (T:Txt K mg t):FnOk P w K mg base CX0 4 t.is_shown t.fd_is_shown ["net","one","other","routes","side"] sp_shown:=by
  refine T.f_is_shown.fn.ok sc_is_shown (fun vs H Q E h=>?_) (fun cdv A outer s H vs Q E hr h=>?_)
  · obtain ⟨a,b,c,bs,g,one,other,zs,R,rfl,_⟩:=h;rfl
  · obtain ⟨a,b,c,bs,g,one,other,zs,R,rfl,hN,hrows,hR,htp,hws,hzl,hbl,hway,hsy,huse,hC,hRn,hRl,hRk,ho,hok,ht,hsum,q⟩:=h
    have hu:=hu_of hr
    refine ltX ?_
    intro X' D'
    refine ⟨_,(pss_consL (ps_expr (pe_call (ok_check_two T) (hr.mono (by decide)) rfl T.f_check_two.mg T.f_check_two.kp T.f_check_two.bd .nil pass0 (pa_cons (pv 0) (pa_cons (pv 1) (pa_cons (pv 2) pa_nil)))))
      (pss_consL (ps_ifL (pt_not (pt_val (pe_callB call_all (by rfl) T.b_all boot_all' (pa_cons (pe_comp ["many","places"] [0,1,2] rfl (pi_list (pv 3)) (fun _ _ _ _ _=>(pg_twoK (K:=K) rfl (i:=0) (j:=1) rfl (show (["many","places","net","one","other"]:List Str).Nodup by decide +kernel) rfl rfl (Or.inl rfl) (Or.inl rfl))) (fun _ _ _ _ _=>pif_nil) (fun _ _ _ _ _=>(pe_call (ok_is_route T) (hr.mono (by decide)) rfl T.f_is_route.mg T.f_is_route.kp T.f_is_route.bd .nil pass0 (pa_cons (pv 2) (pa_cons (pv 3) (pa_cons (pv 4) (pa_cons (pv 0) (pa_cons (pv 1) pa_nil))))))) ⟨⟨_,rfl,rfl,.inl rfl⟩,⟨⟨_,rfl,rfl,.inl rfl⟩,⟨⟨_,rfl,rfl,.inl rfl⟩,trivial⟩⟩⟩ (hfr:=by show ∀ y∈(_:List (Str×NameKind)),y.2 = NameKind.free→(defScope s_is_shown).names.lookup y.1 = some NameKind.cell∨(defScope s_is_shown).names.lookup y.1 = some NameKind.free;decide +kernel)) pa_nil))))
        (pss_one (ps_ret pe_bl))
        pss_nil)
      (pss_consL (ps_ifL (PW.pt (pw_or (pt_not (pt_val (pe_call (ok_keeps_strengths T) (hr.mono (by decide)) rfl T.f_keeps_strengths.mg T.f_keeps_strengths.kp T.f_keeps_strengths.bd .nil pass0 (pa_cons (pv 0) (pa_cons (pv 3) pa_nil))))) (pw_or1 (pt_not (pt_val (pe_call (ok_parts_two T) (hr.mono (by decide)) rfl T.f_parts_two.mg T.f_parts_two.kp T.f_parts_two.bd .nil pass0 (pa_cons (pv 0) (pa_cons (pv 1) (pa_cons (pv 2) (pa_cons (pv 4) pa_nil))))))))))
        (pss_one (ps_ret pe_bl))
        pss_nil)
      (pss_one (ps_ret (pe_cmpR op_eq (pe_callB (call_sum rfl) (by rfl) T.b_sum boot_sum' (pa_cons (pe_comp ["many","places"] [] rfl (pi_list (pv 3)) (fun _ _ _ _ _=>(pg_twoK (K:=K) rfl (i:=0) (j:=1) rfl (show (["many","places"]:List Str).Nodup by decide +kernel) rfl rfl (Or.inl rfl) (Or.inl rfl))) (fun _ _ _ _ _=>pif_nil) (fun _ _ _ _ _=>(pv 0)) trivial (hfr:=by show ∀ y∈(_:List (Str×NameKind)),y.2 = NameKind.free→(defScope s_is_shown).names.lookup y.1 = some NameKind.cell∨(defScope s_is_shown).names.lookup y.1 = some NameKind.free;decide +kernel)) pa_nil)) (pe_call (ok_crossing_of T) (hr.mono (by decide)) rfl T.f_crossing_of.mg T.f_crossing_of.kp T.f_crossing_of.bd .nil pass0 (pa_cons (pv 0) (pa_cons (pv 4) pa_nil))) (nomark _))))))),?_⟩
    extract_lets +lift
    refine ⟨_,rfl,_,rfl,_,rfl,a,bs,g,one,other,rfl,hN,hRk one ho,hok,fun e=>ht (e ▸ ho),fun H1 S1=>?_⟩
    refine ⟨_,rfl,b,rfl,⟨_,SqL.of (S1 _ _ hR)⟩,(let I'1:Nat→List V→Hp→Prop:=fun j ys H2=>Same H H2∧j≤zs.length∧ys = (List.replicate j true).map V.bl;comp_inv zs.length I'1 ⟨S1,Nat.zero_le _,rfl⟩ (fun j ys H2 pv=>?_) (fun j ys H2 hj pv=>?_) (fun ys H2 pv=>?_))⟩
    · obtain ⟨_,h,rfl⟩:=pv
      rw [List.length_map,List.length_replicate];exact lt_two24 (by omega)
    · obtain ⟨S2,_,rfl⟩:=pv
      obtain ⟨z,hz⟩:∃ z,zs[j]? = some z:=⟨_,List.getElem?_eq_getElem hj⟩
      have hzm:=List.mem_of_getElem? hz
      have hR2:=S2 _ _ hR
      refine ⟨⟨_,.ref z.1,SqL.of hR2,by unfold rtV;rw [List.getElem?_map,hz];rfl⟩,?_⟩
      rintro v H3 ⟨rfl,hv⟩
      have hv:=hv _ (SqL.of hR2)
      unfold rtV at hv
      rw [List.getElem?_map,hz] at hv
      cases hv
      obtain ⟨hm1,⟨k,hk1,wy⟩,hst⟩:=hway z hzm
      have hw12:z.2.2.2.length≤12:=Nat.le_trans (nd_len wy.nd wy.mem) (by rw [List.length_map];exact hbl)
      refine ⟨z.1,_,rfl,SqT.of (S2 _ _ (htp z hzm)),rfl,_,_,rfl,_,_,rfl,rfl,yesI ?_⟩
      refine ⟨_,rfl,_,rfl,_,rfl,_,rfl,_,rfl,a,z.2.1,bs,g,one,other,z.2.2.1,z.2.2.2,k,rfl,hN.sm S2.sm,S2 _ _ (hws z hzm),hm1,wy,hw12,hst,fun H4 S4=>nxC hj ⟨S2.trans S4,hj,?_⟩⟩
      rw [List.replicate_succ',List.map_append];rfl
    · obtain ⟨S2,_,rfl⟩:=pv
      refine ⟨⟨_,SqL.of (S2 _ _ hR),by unfold rtV;rw [List.length_map];exact Nat.le_refl _⟩,fun l1 hl1=>?_⟩
      have U2:=Same.updN (o:=.lst ((List.replicate zs.length true).map V.bl)) hl1
      refine ⟨rfl,l1,_,rfl,SqL.of upd_same,?_⟩
      have e:(List.replicate zs.length true).all id = true:=by simp
      rw [e]
      refine ⟨_,rfl,iteF ?_⟩
      have S3:=S2.trans U2
      generalize upd H2 l1 (.lst ((List.replicate zs.length true).map V.bl)) = H3 at S3
      clear S2 U2 hl1
      refine ⟨_,rfl,_,rfl,a,b,bs,g,one,other,zs,rfl,hN.sm S3.sm,S3 _ _ hR,fun z hz=>S3 _ _ (htp z hz),fun z hz=>S3 _ _ (hws z hz),hzl,hbl,hway,hsy,huse,fun H4 S4=>⟨_,rfl,iteF ?_⟩⟩
      have T4:=S3.trans S4
      refine ⟨_,rfl,_,rfl,_,rfl,_,rfl,a,c,bs,g,one,other,R,rfl,hN.sm T4.sm,T4 _ _ hC,hRn,hRl,hRk,ho,ht,fun H5 S5=>⟨_,rfl,iteF ?_⟩⟩
      have T5:=T4.trans S5
      clear S3 S4 T4 S5
      refine ⟨_,rfl,b,rfl,⟨_,SqL.of (T5 _ _ hR)⟩,(let I'2:Nat→List V→Hp→Prop:=fun j ys H6=>H6 = H5∧ys = (((rtR zs).take j).map fun e=>e.1).map V.int;comp_inv zs.length I'2 ⟨rfl,rfl⟩ (fun j ys H6 pv=>?_) (fun j ys H6 hj pv=>?_) (fun ys H6 pv=>?_))⟩
      · obtain ⟨_,rfl⟩:=pv
        rw [List.length_map,List.length_map,List.length_take]
        have:(rtR zs).length = zs.length:=by unfold rtR;rw [List.length_map]
        exact lt_two24 (by omega)
      · obtain ⟨rfl,rfl⟩:=pv
        obtain ⟨z,hz⟩:∃ z,zs[j]? = some z:=⟨_,List.getElem?_eq_getElem hj⟩
        have hzm:=List.mem_of_getElem? hz
        have hR2:=T5 _ _ hR
        refine ⟨⟨_,.ref z.1,SqL.of hR2,by unfold rtV;rw [List.getElem?_map,hz];rfl⟩,?_⟩
        rintro v H7 ⟨rfl,hv⟩
        have hv:=hv _ (SqL.of hR2)
        unfold rtV at hv
        rw [List.getElem?_map,hz] at hv
        cases hv
        refine ⟨z.1,_,rfl,SqT.of (T5 _ _ (htp z hzm)),rfl,_,_,rfl,_,_,rfl,rfl,yesI ?_⟩
        refine ⟨_,rfl,nxC hj ⟨rfl,?_⟩⟩
        have:(rtR zs)[j]? = some z.2.2:=by unfold rtR;rw [List.getElem?_map,hz];rfl
        rw [List.take_add_one,this,List.map_append,List.map_append];rfl
      · obtain ⟨rfl,rfl⟩:=pv
        refine ⟨⟨_,SqL.of (T5 _ _ hR),by unfold rtV;rw [List.length_map];exact Nat.le_refl _⟩,fun l2 hl2=>?_⟩
        have el:zs.length = (rtR zs).length:=by unfold rtR;rw [List.length_map]
        rw [el,List.take_length]
        have U6:=Same.updN (o:=.lst (((rtR zs).map fun e=>e.1).map V.int)) hl2
        refine ⟨l2,_,rfl,SqL.of upd_same,?_⟩
        have es:sumL ((rtR zs).map fun e=>e.1) id = sumL (rtR zs) fun e=>e.1:=by rw [sumL_map];rfl
        rw [es]
        have T6:=T5.trans U6
        refine ⟨_,rfl,_,rfl,a,c,bs,g,sortS R,rfl,hN.sm T6.sm,hrows,hbl,T6 _ _ hC,fun H8 S8=>?_⟩
        rw [hsum]
        have fin:=q H8 (T6.trans S8)
        refine ⟨rfl,?_⟩
        simpa using fin
end
end K15
namespace K15
open PySem L2 PySem.Spec PyProof.Rows
section
variable {P:Program} {w:World} {K:PySem.W.Frag} {mg:Str→Option Value} {base:Heap} {t:Adr}
def rtD (z:Addr×Addr×Int×List Str):D:=.tup [.int z.2.2.1,.lst (z.2.2.2.map D.str)]
theorem rt_reps {K:PySem.W.Frag} {H:Hp}:∀ {zs:Rz},(∀ z∈zs,H z.1 = some (.tup [.int z.2.2.1,.ref z.2.1]))→(∀ z∈zs,H z.2.1 = some (.lst (z.2.2.2.map V.str)))→Reps K H (rtV zs) (zs.map rtD)
  | [],_,_=>.nil
  | z :: zs,h1,h2=>.cons (.tup (SqT.of (h1 z (by simp))) (.cons (.int _) (.cons (.lst (SqL.of (h2 z (by simp))) Reps.strs) .nil))) (rt_reps (fun y hy=>h1 y (List.mem_cons_of_mem _ hy)) fun y hy=>h2 y (List.mem_cons_of_mem _ hy))
def rdE (e:Int×List Str):D:=.tup [.int e.1,.lst (e.2.map D.str)]
theorem rdE_flats:∀ l:Rts,D.flats (l.map rdE) = true
  | []=>rfl
  | e :: l=>by
    show (D.flats [.int e.1,.lst (e.2.map D.str)] && D.flats (l.map rdE)) = true
    rw [rdE_flats l,Bool.and_true]
    show (true && (D.flats (e.2.map D.str) && true)) = true
    rw [flats_strs];rfl
theorem rdE_deps:∀ l:Rts,D.deps (l.map rdE)≤6
  | []=>by decide
  | e :: l=>by
    have h1:=rdE_deps l
    have h2:=deps_strs e.2
    simp only [List.map_cons,D.deps,rdE,D.dep]
    omega
theorem rdE_map (zs:Rz):zs.map rtD = (rtR zs).map rdE:=by unfold rtR;rw [List.map_map];rfl
theorem gnet_rows {ks:List Str} {f:Str→L2.Row} {B:Int} (hg:GNet ks f B):RowsIn ks f:=⟨fun x hx=>hg.nd x hx,fun x hx y hy=>by
  cases c:look (f x) y with
  | none=>exact absurd hy (look_none.mp c)
  | some v=>exact (hg.val x y v hx c).1⟩
theorem gnet_nn {ks:List Str} {f:Str→L2.Row} {B:Int} (hg:GNet ks f B):∀ x∈ks,∀ y∈ks,0≤rc f x y:=fun x hx y _=>by
  unfold rc
  cases c:look (f x) y with
  | none=>exact Int.le_refl _
  | some v=>have:=(hg.val x y v hx c).2.1;show 0≤v;omega
theorem gnet_turn {ks:List Str} {f g:Str→L2.Row} {B:Int} (hg:GNet ks f B) (h:∀ x∈ks,g x = (f x).reverse):GNet ks.reverse g B:=by
  have lk:∀ x∈ks,∀ y,look (g x) y = look (f x) y:=fun x hx y=>by rw [h x hx,look_rev (hg.nd x hx)]
  refine ⟨fun x y hx hy=>?_,fun x hx=>?_,fun x y v hx hv=>?_,fun x hx=>?_⟩
  · have hx:=List.mem_reverse.mp hx
    have hy:=List.mem_reverse.mp hy
    rw [lk x hx,lk y hy];exact hg.sym x y hx hy
  · have hx:=List.mem_reverse.mp hx
    rw [lk x hx];exact hg.irr x hx
  · have hx:=List.mem_reverse.mp hx
    rw [lk x hx] at hv
    obtain ⟨a,b⟩:=hg.val x y v hx hv
    exact ⟨List.mem_reverse.mpr a,b⟩
  · have hx:=List.mem_reverse.mp hx
    rw [h x hx,List.map_reverse];exact nd_rev (hg.nd x hx)
inductive Sp_both  (vs:List V) (H:Hp) (Q:VK):Prop
  | mk (a b:Addr) (bs ds:Outer) (f:Str→L2.Row) (one other:Str) (B:Int):(vs = [.ref a,.ref b,.str one,.str other])→(NetAt H a bs f)→(NetAt H b ds (fun x=>(f x).reverse))→(ds.map (·.1) = (bs.map (·.1)).reverse)→(GNet (bs.map (·.1)) f B)→((∀ x,((f x).map (·.1)).Nodup))→(bs.length≤12)→(one∈bs.map (·.1))→(other∈bs.map (·.1))→(one≠other)→(∀ H',Same H H'→Q (.bl true) H')→Sp_both  vs H Q
def sp_both :Sp:=fun vs H Q _=>Sp_both  vs H Q
theorem ok_l_both (T:Txt K mg t):FnOk P w K mg base CX0 6 t.l_both t.fd_l_both ["_law_net_here","_law_other_net","_law_one","_law_other"] sp_both:=by
  refine T.f_l_both.fn.ok sc_l_both (fun vs H Q E h=>?_) (fun cdv A outer s H vs Q E hr h=>?_)
  · obtain ⟨a,b,bs,ds,f,one,other,B,rfl,_⟩:=h;rfl
  · obtain ⟨a,b,bs,ds,f,one,other,B,rfl,hN,hM,hds,hg,hnda,hbl,ho,ht,hne,q⟩:=h
    have hu:=hu_of hr
    have hu8:(A.deeper _).units + 8 < cLine:=Nat.lt_of_le_of_lt (Nat.add_le_add_left (by decide:8≤64) _) hr.units
    refine ltX ?_
    intro X' D'
    refine ⟨_,(pss_consL (ps_set (i:=4) sc_l_both.nd rfl (Or.inl rfl) (pe_call (ok_routes_between T) (hr.mono (by decide)) rfl T.f_routes_between.mg T.f_routes_between.kp T.f_routes_between.bd .nil pass0 (pa_cons (pv 0) (pa_cons (pv 2) (pa_cons (pv 3) pa_nil)))))
      (pss_consL (ps_set (i:=5) sc_l_both.nd rfl (Or.inl rfl) (pe_call (ok_side_between T) (hr.mono (by decide)) rfl T.f_side_between.mg T.f_side_between.kp T.f_side_between.bd .nil pass0 (pa_cons (pv 0) (pa_cons (pv 2) (pa_cons (pv 3) pa_nil)))))
      (pss_consL (ps_set (i:=6) sc_l_both.nd rfl (Or.inl rfl) (pe_call (ok_most_between T) (hr.mono (by decide)) rfl T.f_most_between.mg T.f_most_between.kp T.f_most_between.bd .nil pass0 (pa_cons (pv 0) (pa_cons (pv 2) (pa_cons (pv 3) pa_nil)))))
      (pss_consL (ps_ifL (PW.pt (pw_or (pt_not (pt_val (pe_call (ok_l_is_side T) (hr.mono (by decide)) rfl T.f_l_is_side.mg T.f_l_is_side.kp T.f_l_is_side.bd .nil pass0 (pa_cons (pv 0) (pa_cons (pv 2) (pa_cons (pv 3) (pa_cons (pv 5) pa_nil))))))) (pw_or1 (pt_not (pt_val (pe_call (ok_l_least T) (hr.mono (by decide)) rfl T.f_l_least.mg T.f_l_least.kp T.f_l_least.bd .nil pass0 (pa_cons (pv 0) (pa_cons (pv 2) (pa_cons (pv 5) pa_nil)))))))))
        (pss_one (ps_ret pe_bl))
        pss_nil)
      (pss_consL (ps_ifL (PW.pt (pw_or (pt_cmpR op_ne (pe_call (ok_l_come_to T) (hr.mono (by decide)) rfl T.f_l_come_to.mg T.f_l_come_to.kp T.f_l_come_to.bd .nil pass0 (pa_cons (pv 0) (pa_cons (pv 2) (pa_cons (pv 3) (pa_cons (pv 4) pa_nil))))) (pv 6) (nomark _)) (pw_or1 (pt_cmpR op_ne (pe_call (ok_l_crossing T) (hr.mono (by decide)) rfl T.f_l_crossing.mg T.f_l_crossing.kp T.f_l_crossing.bd .nil pass0 (pa_cons (pv 0) (pa_cons (pv 5) pa_nil))) (pv 6) (nomark _)))))
        (pss_one (ps_ret pe_bl))
        pss_nil)
      (pss_consL (ps_ifL (PW.pt (pw_or (pt_cmpR (op_neD hu8) (pe_call (ok_routes_between T) (hr.mono (by decide)) rfl T.f_routes_between.mg T.f_routes_between.kp T.f_routes_between.bd .nil pass0 (pa_cons (pv 1) (pa_cons (pv 2) (pa_cons (pv 3) pa_nil)))) (pv 4) (nomark _)) (pw_or1 (pt_cmpR (op_neD hu8) (pe_call (ok_side_between T) (hr.mono (by decide)) rfl T.f_side_between.mg T.f_side_between.kp T.f_side_between.bd .nil pass0 (pa_cons (pv 1) (pa_cons (pv 2) (pa_cons (pv 3) pa_nil)))) (pv 5) (nomark _)))))
        (pss_one (ps_ret pe_bl))
        pss_nil)
      (pss_one (ps_ret (pe_and (pe_call (ok_is_shown T) (hr.mono (by decide)) rfl T.f_is_shown.mg T.f_is_shown.kp T.f_is_shown.bd .nil pass0 (pa_cons (pv 0) (pa_cons (pv 2) (pa_cons (pv 3) (pa_cons (pv 4) (pa_cons (pv 5) pa_nil)))))) (pe_one (pe_call (ok_is_shown T) (hr.mono (by decide)) rfl T.f_is_shown.mg T.f_is_shown.kp T.f_is_shown.bd .nil pass0 (pa_cons (pv 1) (pa_cons (pv 2) (pa_cons (pv 3) (pa_cons (pe_listrev rfl rfl T.b_list rfl T.b_reversed (pa_cons (pv 4) pa_nil)) (pa_cons (pv 5) pa_nil)))))))))))))))),?_⟩
    extract_lets +lift
    have hnd:=hN.ks
    have hdl:ds.length≤12:=by
      have:=congrArg List.length hds
      rw [List.length_map,List.length_reverse,List.length_map] at this;omega
    generalize hbs:bs.map (·.1) = ks at *
    have hkl:ks.length≤12:=by rw [← hbs,List.length_map];exact hbl
    have hrows:=gnet_rows hg
    have hnn:=gnet_nn hg
    have hsy:∀ x∈ks,∀ y∈ks,(look (f x) y).isSome = (look (f y) x).isSome:=fun x hx y hy=>by rw [hg.sym x y hx hy]
    have hg':GNet ks.reverse (fun x=>(f x).reverse) B:=gnet_turn hg fun _ _=>rfl
    have hrows':=gnet_rows hg'
    have hnn':=gnet_nn hg'
    have hsy':∀ x∈ks.reverse,∀ y∈ks.reverse,(look ((f x).reverse) y).isSome = (look ((f y).reverse) x).isSome:=fun x hx y hy=>by rw [hg'.sym x y hx hy]
    have ho':one∈ks.reverse:=List.mem_reverse.mpr ho
    have ht':other∈ks.reverse:=List.mem_reverse.mpr ht
    refine ⟨_,rfl,_,rfl,_,rfl,a,bs,f,one,other,rfl,hN,by rw [hbs];exact hrows,by rw [hbs];exact hnn,by rw [hbs];exact hsy,by omega,by rw [hbs];exact ho,by rw [hbs];exact ht,hne,fun H5 rp zs am S5 hR5 hro=>?_⟩
    rw [hbs] at hro
    have hN5:=hN.same S5
    refine ⟨_,rfl,_,rfl,_,rfl,a,bs,f,one,other,rfl,hN5,by rw [hbs];exact hrows,by rw [hbs];exact hnn,by omega,by rw [hbs];exact ho,by rw [hbs];exact ht,hne,fun H6 sp am1 R S6 hSp hRn hL1=>?_⟩
    rw [hbs] at hL1
    have hN6:=hN5.same S6
    refine ⟨_,rfl,_,rfl,_,rfl,a,bs,f,one,other,rfl,hN6,by rw [hbs];exact hrows,by rw [hbs];exact hnn,by omega,by rw [hbs];exact ho,by rw [hbs];exact ht,hne,fun H7 am2 R2 S7 _ hL2=>?_⟩
    rw [hbs] at hL2
    have T7:=(S5.trans S6).trans S7
    have hR7:=hR5.same (S6.trans S7)
    have hSp7:=S7 _ _ hSp
    obtain ⟨R3,hL3⟩:=hro.least ho hne
    obtain rfl:am1 = am2:=hL1.alike hL2
    obtain rfl:am = am1:=hL3.alike hL1
    clear hN5 hN6 hR5 hSp S5 S6 S7 hL2 hL3
    obtain ⟨r,Dd,lack,hev,hsh,fl,hbf,hit,hlk,ri⟩:=id hro
    have hlack:lack = 0:=by have:=ri.lk;omega
    have hrl:(rtR zs).length = zs.length:=by unfold rtR;rw [List.length_map]
    have hcnt:=ri.cnt
    have hpos:=posN_nn ks Dd
    have hp3:=posN_le (ks:=ks) (rc (phiR f r)) (by omega)
    have hzl:zs.length≤144:=by omega
    have hRl:R.length≤12:=Nat.le_trans (nd_len hRn hL1.mem) (by omega)
    have hRo:one∈R:=by simpa [inB] using hL1.side.has one ho (by simp [inB])
    have hRt:other∉R:=by simpa [inB] using hL1.side.lacks other ht (by simp [inB])
    have hcr:crS ks f (sortS R) = am:=by
      unfold crS
      rw [cross_leave hnd hrows,inB_sort];exact hL1.eq
    have hdr:∀ y∈sortS R,y≠one→crS ks f (sortS R) < crS ks f ((sortS R).filter fun x=>decide (x≠y)):=fun y hy hyo=>by
      rw [hcr]
      unfold crS
      rw [cross_leave hnd hrows]
      exact hL1.sorted.drop hy hyo
    have hwy:∀ z∈zs,1≤z.2.2.1∧(∃ k,1≤k∧Wy ks one other z.2.2.2 k)∧∀ x y,(x,y)∈stL z.2.2.2→(look (f x) y).isSome = true:=fun z hz=>by
      obtain ⟨w1,w2,w3⟩:=ri.way z.2.2 (by unfold rtR;exact List.mem_map.mpr ⟨z,hz,rfl⟩)
      refine ⟨w1,w2,fun x y hxy=>?_⟩
      have:=w3 x y hxy
      cases c:look (f x) y with
      | none=>rw [rc_phi_none c] at this;omega
      | some v=>rfl
    have huse:∀ x∈ks,∀ y∈ks,useA (rtR zs) x y + useA (rtR zs) y x≤rc f x y:=fun x hx y hy=>by
      have u1:=ri.use x y
      have u2:=ri.use y x
      have n1:=ri.cs.nn x hx y hy
      have n2:=ri.cs.nn y hy x hx
      have:=phi_two fl (fun x hx y hy=>hg.sym x y hx hy) hnn hx hy
      omega
    have hsumr:(sumL (rtR zs) fun e=>e.1) = am:=by have:=ri.sum;omega
    clear hev hsh fl hbf hit hlk ri hcnt hpos hp3 hlack
    have hN7:=hN.same T7
    refine ⟨_,rfl,_,rfl,_,rfl,_,rfl,a,sp,bs,f,one,other,R,rfl,hN7.r,hSp7,hRn,hRl,by rw [hbs];exact hL1.mem,hRo,hRt,fun H8 S8=>⟨_,rfl,iteF ?_⟩⟩
    have T8:=T7.trans S8
    have hSp8:=S8 _ _ hSp7
    have hR8:=hR7.same S8
    refine ⟨_,rfl,_,rfl,_,rfl,a,sp,bs,f,one,sortS R,rfl,(hN.same T8).r,by rw [hbs];exact hrows,hSp8,by rw [sortS_len];exact hRl,by rw [hbs];exact hdr,fun H9 S9=>⟨_,rfl,iteF ?_⟩⟩
    have T9:=T8.trans S9
    have hSp9:=S9 _ _ hSp8
    have hR9:=hR8.same S9
    clear hSp7 hSp8 hR7 hR8 S8 S9 T7 T8 hN7
    refine ⟨_,rfl,_,rfl,_,rfl,_,rfl,a,rp,bs,f,one,other,zs,_,rfl,(hN.same T9).r,hR9,hzl,by omega,by rw [hbs];exact hwy,by rw [hbs];exact hsy,by rw [hbs];exact huse,fun H10 S10=>?_⟩
    rw [hsumr]
    refine ⟨_,rfl,rfl,_,rfl,iteB (fun h=>absurd h (by simp)) (fun _=>?_)⟩
    have T10:=T9.trans S10
    have hSp10:=S10 _ _ hSp9
    have hR10:=hR9.same S10
    refine ⟨_,rfl,_,rfl,a,sp,bs,f,sortS R,rfl,(hN.same T10).r,by rw [hbs];exact hrows,hSp10,fun H11 S11=>?_⟩
    have hcr':(sumL (bs.map (·.1)) fun x=>if x∈sortS R then rowOut (f x) (sortS R) else 0) = am:=by rw [hbs];exact hcr
    rw [hcr']
    refine ⟨_,rfl,rfl,_,rfl,iteB (fun h=>absurd h (by simp)) (fun _=>?_)⟩
    have T11:=T10.trans S11
    have hSp11:=S11 _ _ hSp10
    have hR11:=hR10.same S11
    clear hSp9 hSp10 hR9 hR10 S10 S11 T9 T10
    refine ⟨_,rfl,_,rfl,_,rfl,b,ds,_,one,other,rfl,hM.same T11,by rw [hds];exact hrows',by rw [hds];exact hnn',by rw [hds];exact hsy',by omega,by rw [hds];exact ho',by rw [hds];exact ht',hne,fun H12 qp zs2 am3 S12 hR12 hro2=>?_⟩
    rw [hds] at hro2
    have e2:rtR zs2 = rtR zs:=(hro.turned hnda hro2).2.symm
    have hRr:=hR11.same S12
    have rA:Rep K H12 (.ref qp) (.lst ((rtR zs).map rdE)):=by
      rw [← e2,← rdE_map]
      exact .lst (SqL.of hR12.out) (rt_reps hR12.tp hR12.ws)
    have rB:Rep K H12 (.ref rp) (.lst ((rtR zs).map rdE)):=by
      rw [← rdE_map]
      exact .lst (SqL.of hRr.out) (rt_reps hRr.tp hRr.ws)
    have hfl:D.flat (.lst ((rtR zs).map rdE)) = true:=rdE_flats _
    have hdp:D.dep (.lst ((rtR zs).map rdE))≤8:=by
      have:=rdE_deps (rtR zs)
      simp only [D.dep]
      omega
    refine ⟨_,rfl,qp,rp,_,_,rfl,rfl,rA,rB,.same hfl,hdp,_,rfl,iteF ?_⟩
    clear rA rB hfl hdp hR12 hro2 e2
    have T12:=T11.trans S12
    have hSp12:=S12 _ _ hSp11
    refine ⟨_,rfl,_,rfl,_,rfl,b,ds,_,one,other,rfl,hM.same T12,by rw [hds];exact hrows',by rw [hds];exact hnn',by omega,by rw [hds];exact ho',by rw [hds];exact ht',hne,fun H13 sp2 am4 R4 S13 hSp2 hRn2 hL4=>?_⟩
    rw [hds] at hL4
    have hL5:LeastS ks (rc f) [one] [other] am4 R4:=LeastS.rev (os:=[one]) (ts:=[other]) hL4 (rc_turn hnda)
    obtain rfl:am = am4:=hL1.alike hL5
    rw [← hL1.oneside hL5 hRn hRn2] at hSp2
    have fl2:∀ ss:List Str,D.flat (.lst (ss.map D.str)) = true:=fun ss=>by
      show D.flats (ss.map D.str) = true
      exact flats_strs ss
    have dep2:∀ ss:List Str,D.dep (.lst (ss.map D.str))≤8:=fun ss=>by
      have:=deps_strs ss
      simp only [D.dep]
      omega
    have hSp13:=S13 _ _ hSp12
    refine ⟨_,rfl,sp2,sp,_,_,rfl,rfl,.lst (SqL.of hSp2) Reps.strs,.lst (SqL.of hSp13) Reps.strs,.same (fl2 _),dep2 _,_,rfl,iteF ?_⟩
    have T13:=T12.trans S13
    have hR13:=hRr.same S13
    clear hSp11 hSp12 hR11 hRr S12 S13 T11 T12 hSp2 hL4 hL5 hRn2
    have hcl:(sumL (rtR zs) fun e=>e.1) = crossL (linesF ks f) (sortS R):=by
      unfold crossL
      rw [hsumr,cross_eq hnd hg hrows]
      exact hcr.symm
    refine ⟨_,rfl,_,rfl,_,rfl,_,rfl,_,rfl,a,rp,sp,bs,f,one,other,zs,R,rfl,(hN.same T13).r,by rw [hbs];exact hrows,hR13.out,hR13.tp,hR13.ws,hzl,by omega,by rw [hbs];exact hwy,by rw [hbs];exact hsy,by rw [hbs];exact huse,hSp13,hRn,hRl,by rw [hbs];exact hL1.mem,hRo,by rw [hbs];exact ht,hRt,by rw [hbs];exact hcl,fun H14 S14=>⟨_,rfl,iteT ?_⟩⟩
    have T14:=T13.trans S14
    have hR14:=hR13.same S14
    have hSp14:=S14 _ _ hSp13
    refine ⟨_,rfl,_,rfl,_,rfl,_,rfl,rp,_,rfl,SqL.of hR14.out,fun vp hvp=>?_⟩
    rw [← rtV_rev]
    have U:=Same.updN (o:=.lst (rtV zs.reverse)) hvp
    have hV:(upd H14 vp (.lst (rtV zs.reverse))) vp = some (.lst (rtV zs.reverse)):=upd_same
    have T15:=T14.trans U
    have hR15:=hR14.same U
    have hSp15:=U _ _ hSp14
    generalize upd H14 vp (.lst (rtV zs.reverse)) = H15 at U hV T15 hR15 hSp15 ⊢
    have lk:∀ x y,look ((f x).reverse) y = look (f x) y:=fun x y=>look_rev (hnda x) y
    have hrct:rc (fun x=>(f x).reverse) = rc f:=rc_turn hnda
    have hcl':(sumL (rtR zs.reverse) fun e=>e.1) = crossL (linesF ks.reverse fun x=>(f x).reverse) (sortS R):=by
      unfold crossL
      rw [rtR_rev,sumL_perm (List.reverse_perm _),hsumr,cross_eq (nd_rev hnd) hg' hrows',cross_leave (nd_rev hnd) hrows',leave_rev,hrct,inB_sort]
      exact hL1.eq.symm
    refine ⟨_,rfl,b,vp,sp,ds,_,one,other,zs.reverse,R,rfl,(hM.same T15).r,by rw [hds];exact hrows',hV,fun z hz=>hR15.tp z (List.mem_reverse.mp hz),fun z hz=>hR15.ws z (List.mem_reverse.mp hz),by rw [List.length_reverse];exact hzl,by omega,?_,by rw [hds];exact hsy',?_,hSp15,hRn,hRl,by rw [hds];exact fun x hx=>List.mem_reverse.mpr (hL1.mem x hx),hRo,by rw [hds];exact ht',hRt,by rw [hds];exact hcl',fun H16 S16=>q _ (T15.trans S16)⟩
    · intro z hz
      obtain ⟨w1,⟨k,w2,w3⟩,w4⟩:=hwy z (List.mem_reverse.mp hz)
      rw [hds]
      exact ⟨w1,⟨k,w2,w3.turn⟩,fun x y hxy=>by rw [lk];exact w4 x y hxy⟩
    · intro x hx y hy
      rw [hds] at hx hy
      rw [rtR_rev,useA_rev,useA_rev,hrct]
      exact huse x (List.mem_reverse.mp hx) y (List.mem_reverse.mp hy)
end
end K15
namespace K15
open PySem L2 PySem.Spec PyProof.Rows
section
variable {P:Program} {w:World} {K:PySem.W.Frag} {mg:Str→Option Value} {base:Heap} {t:Adr}
inductive Sp_cell (K:PySem.W.Frag) (vs:List V) (H:Hp) (Q:VK):Prop
  | mk (a:Addr) (ns:List Int) (k:Int):(vs = [.ref a,.int k])→(0≤k)→(SqL K H a (ns.map V.int))→(Q (.int (ns.getD k.toNat 0)) H)→Sp_cell K vs H Q
def sp_cell (K:PySem.W.Frag):Sp:=fun vs H Q _=>Sp_cell K vs H Q
theorem ok_l_cell (T:Txt K mg t):FnOk P w K mg base CX0 1 t.l_cell t.fd_l_cell ["_law_script","_law_k"] (sp_cell K):=by
  refine T.f_l_cell.fn.ok sc_l_cell (fun vs H Q E h=>?_) (fun cdv A outer s H vs Q E hr h=>?_)
  · obtain ⟨a,ns,k,rfl,_⟩:=h;rfl
  · obtain ⟨a,ns,k0,rfl,h0,hS,q⟩:=h
    obtain ⟨k,rfl⟩:=Int.eq_ofNat_of_zero_le h0
    rw [Int.toNat_natCast] at q
    refine ltX ?_
    intro X' D'
    refine ⟨_,(pss_consL (ps_ifL (pt_cmpR op_lt (pv 1) (pe_callB call_len (by rfl) T.b_len boot_len' (pa_cons (pv 0) pa_nil)) (nomark _))
        (pss_one (ps_ret (pe_ix ix_list (pv 0) (pv 1) (fun _ _=>rfl))))
        pss_nil)
      (pss_one (ps_ret pe_int))),?_⟩
    extract_lets +lift
    refine ⟨_,rfl,_,rfl,.ref a,ns.length,rfl,.inl ⟨_,hS,by simp⟩,_,_,rfl,rfl,_,rfl,?_⟩
    refine iteD (fun hk=>?_) (fun hk=>?_)
    · have hk':k < ns.length:=by omega
      refine ⟨_,rfl,_,rfl,a,_,_,.int ns[k],rfl,rfl,hS,atI_nat (by simp [hk']),?_⟩
      rw [show ns.getD k 0 = ns[k] by simp [hk']] at q
      exact q
    · have hk':ns.length≤k:=by omega
      rw [show ns.getD k 0 = 0 by simp [hk']] at q
      exact q
inductive Sp_mixn  (vs:List V) (H:Hp) (Q:VK):Prop
  | mk (c k:Int):(vs = [.int c,.int k])→(0≤k)→(k≤1000000)→(∀ n:Int,0≤n→n < 2147483587→Q (.int n) H)→Sp_mixn  vs H Q
def sp_mixn :Sp:=fun vs H Q _=>Sp_mixn  vs H Q
theorem ok_l_mix (T:Txt K mg t):FnOk P w K mg base CX0 1 t.l_mix t.fd_l_mix ["_law_cell_here","_law_k"] sp_mixn:=by
  refine T.f_l_mix.fn.ok sc_l_mix (fun vs H Q E h=>?_) (fun cdv A outer s H vs Q E hr h=>?_)
  · obtain ⟨c,k,rfl,_⟩:=h;rfl
  · obtain ⟨c,k,rfl,h0,hk,q⟩:=h
    refine ltX ?_
    intro X' D'
    refine ⟨_,(pss_consL (ps_set (i:=2) sc_l_mix.nd rfl (Or.inl rfl) (pe_op op_mod (pe_op op_add (pe_op op_add (pe_op op_mod (pv 0) pe_int) (pe_op op_mul pe_int (pv 1))) pe_int) pe_int))
      (pss_consL (ps_set (i:=2) sc_l_mix.nd rfl (Or.inl rfl) (pe_op op_mod (pe_op op_add (pe_op op_mul (pv 2) (pv 2)) (pe_op op_mul pe_int (pv 1))) pe_int))
      (pss_one (ps_ret (pe_op op_mod (pe_op op_mul (pe_op op_add (pv 2) (pv 1)) (pe_op op_add (pv 2) (pv 1))) pe_int))))),?_⟩
    extract_lets +lift
    refine ⟨_,rfl,_,_,rfl,rfl,(by show (0:Int) < 2147483629;decide),_,rfl,_,_,rfl,rfl,.inl ⟨by decide,by decide⟩,_,_,rfl,rfl,_,_,rfl,rfl,_,_,rfl,rfl,(by show (0:Int) < 2147483629;decide),?_⟩
    have f1:=Int.emod_nonneg (c % 2147483629 + 7919 * k + 12345) (show (2147483629:Int)≠0 by decide)
    have f2:=Int.emod_lt_of_pos (c % 2147483629 + 7919 * k + 12345) (show (0:Int) < 2147483629 by decide)
    refine ⟨_,rfl,_,rfl,_,_,rfl,rfl,.inl ⟨by omega,by omega⟩,_,rfl,_,_,rfl,rfl,.inl ⟨by decide,by decide⟩,_,_,rfl,rfl,_,_,rfl,rfl,(by show (0:Int) < 2147483629;decide),?_⟩
    have g1:=Int.emod_nonneg ((c % 2147483629 + 7919 * k + 12345) % 2147483629 * ((c % 2147483629 + 7919 * k + 12345) % 2147483629) + 104729 * k) (show (2147483629:Int)≠0 by decide)
    have g2:=Int.emod_lt_of_pos ((c % 2147483629 + 7919 * k + 12345) % 2147483629 * ((c % 2147483629 + 7919 * k + 12345) % 2147483629) + 104729 * k) (show (0:Int) < 2147483629 by decide)
    refine ⟨_,rfl,_,rfl,_,_,rfl,rfl,_,rfl,_,rfl,_,_,rfl,rfl,_,_,rfl,rfl,.inl ⟨by omega,by omega⟩,_,_,rfl,rfl,(by show (0:Int) < 2147483587;decide),?_⟩
    exact q _ (Int.emod_nonneg _ (by decide)) (Int.emod_lt_of_pos _ (by decide))
inductive Sp_names11  (vs:List V) (H:Hp) (Q:VK):Prop
  | mk (c n:Int):(vs = [.int c,.int n])→(0≤n)→(n≤26)→(∀ (p:Addr) (H':Hp) (ss:List Str),Same H H'→H p = none→H' p = some (.lst (ss.map V.str))→ss.length = n.toNat→ss.Nodup→Q (.ref p) H')→Sp_names11  vs H Q
def sp_names11 :Sp:=fun vs H Q _=>Sp_names11  vs H Q
theorem ok_l_names (T:Txt K mg t):FnOk P w K mg base CX0 1 t.l_names t.fd_l_names ["_law_cell_here","_law_many"] sp_names11:=by
  refine T.f_l_names.fn.ok sc_l_names (fun vs H Q E h=>?_) (fun cdv A outer s H vs Q E hr h=>?_)
  · obtain ⟨c,n,rfl,_⟩:=h;rfl
  · obtain ⟨c,n,rfl,hn0,hn,q⟩:=h
    have w1:=Int.emod_nonneg c (show (3:Int)≠0 by decide)
    have w2:=Int.emod_lt_of_pos c (show (0:Int) < 3 by decide)
    have s1:=Int.emod_nonneg (c / 3) (show (8:Int)≠0 by decide)
    have s2:=Int.emod_lt_of_pos (c / 3) (show (0:Int) < 8 by decide)
    have a1:=Int.emod_nonneg (c / 24) (show (1 + c / 3 % 8:Int)≠0 by omega)
    have a2:=Int.emod_lt_of_pos (c / 24) (show (0:Int) < 1 + c / 3 % 8 by omega)
    have hm:cs ("m":Str) = [109]:=by decide +kernel
    have hb:cs ("b":Str) = [98]:=by decide +kernel
    have lo:∀ k c:Nat,(ofC (List.replicate k c)).length = k:=fun k c=>by rw [← cs_len,cs_ofC,List.length_replicate]
    refine ltX ?_
    intro X' D'
    refine ⟨_,(pss_consL (ps_set (i:=2) sc_l_names.nd rfl (Or.inl rfl) pe_str)
      (pss_consL (ps_set (i:=3) sc_l_names.nd rfl (Or.inl rfl) (pe_op op_mod (pv 0) pe_int))
      (pss_consL (ps_set (i:=4) sc_l_names.nd rfl (Or.inl rfl) (pe_op op_add pe_int (pe_op op_mod (pe_op op_fdiv (pv 0) pe_int) pe_int)))
      (pss_consL (ps_set (i:=5) sc_l_names.nd rfl (Or.inl rfl) (pe_op op_mod (pe_op op_fdiv (pv 0) pe_int) (pv 4)))
      (pss_consL (ps_set (i:=6) sc_l_names.nd rfl (Or.inl rfl) (pe_lst pa_nil))
      (pss_consL (ps_forL PassesOwn.never rfl (pi_range1 rfl T.b_range (pa_cons (pv 1) pa_nil)) (pg_name (i:=7) sc_l_names.nd rfl (Or.inl rfl))
        (pss_consL (ps_set (i:=8) sc_l_names.nd rfl (Or.inl rfl) (pe_ix ix_str (pv 2) (pe_op op_mod (pe_op op_add (pe_op op_fdiv (pv 0) pe_int) (pe_op op_mul pe_int (pv 7))) pe_int) (fun _ _=>rfl)))
      (pss_one (ps_ifL (pt_cmpR op_eq (pv 3) pe_int (nomark _))
        (pss_one (ps_expr (pe_bm PySem.F.plainAttrs_list PySem.F.slot_list_append PySem.F.type_list_append mt_append (pv 6) (pa_cons (pe_op op_add_str (pe_op op_add_str (pe_op op_mul_str pe_str (pv 5)) (pv 8)) (pe_op op_mul_str pe_str (pe_op op_sub (pe_op op_sub (pv 4) (pv 5)) pe_int))) pa_nil))))
        (pss_one (ps_ifL (pt_cmpR op_eq (pv 3) pe_int (nomark _))
        (pss_one (ps_expr (pe_bm PySem.F.plainAttrs_list PySem.F.slot_list_append PySem.F.type_list_append mt_append (pv 6) (pa_cons (pe_op op_add_str (pv 8) (pe_op op_mul_str pe_str (pe_op op_mod (pe_op op_add (pe_op op_mul (pv 7) (pv 7)) (pe_op op_fdiv (pv 0) pe_int)) pe_int))) pa_nil))))
        (pss_one (ps_expr (pe_bm PySem.F.plainAttrs_list PySem.F.slot_list_append PySem.F.type_list_append mt_append (pv 6) (pa_cons (pe_op op_add_str (pe_ix ix_str (pv 2) (pe_op op_mod (pe_op op_add (pe_op op_fdiv (pv 0) pe_int) (pe_op op_fdiv (pv 7) pe_int)) pe_int) (fun _ _=>rfl)) (pe_op op_mul_str pe_str (pe_op op_sub pe_int (pe_op op_mod (pv 7) pe_int)))) pa_nil))))))))))
      (pss_one (ps_ret (pv 6))))))))),?_⟩
    extract_lets +lift
    refine ⟨_,rfl,_,_,rfl,rfl,(by show (0:Int) < 3;decide),?_⟩
    refine ⟨_,rfl,_,_,rfl,rfl,⟨by decide,by decide⟩,_,_,rfl,rfl,(by show (0:Int) < 8;decide),_,_,rfl,rfl,?_⟩
    refine ⟨_,rfl,_,_,rfl,rfl,⟨by decide,by decide⟩,_,rfl,_,_,rfl,rfl,(by show (0:Int) < 1 + c / 3 % 8;omega),?_⟩
    refine ⟨(by decide),fun p hp=>?_⟩
    refine ⟨_,rfl,n,rfl,by omega,by omega,(let I'1:Nat→L2.St→Hp→Prop:=fun i σ H2=>∃ x7 x8,σ = [some (.int c),some (.int n),some (.str lettersS),some (.int (c % 3)),some (.int (1 + c / 3 % 8)),some (.int (c / 24 % (1 + c / 3 % 8))),some (.ref p),x7,x8]∧Same H H2∧H2 p = some (.lst (((List.range i).map (nmF c)).map V.str));for_range (n:=n.toNat) I'1 ⟨_,_,rfl,Same.updN hp,upd_same⟩ (fun i σ H2 hi pv=>?_) (fun σ H2 pv=>?_))⟩
    · obtain ⟨x7,x8,rfl,hS,hP⟩:=pv
      have hi26:i < 26:=by omega
      simp only [Int.zero_add]
      have m1:=Int.emod_nonneg (c / 192 + 11 * (i:Int)) (show (26:Int)≠0 by decide)
      have m2:=Int.emod_lt_of_pos (c / 192 + 11 * (i:Int)) (show (0:Int) < 26 by decide)
      have fin:∀ X:Str,X = nmF c i→∃ x7 x8,[some (V.int c),some (.int n),some (.str lettersS),some (.int (c % 3)),some (.int (1 + c / 3 % 8)),some (.int (c / 24 % (1 + c / 3 % 8))),some (.ref p),some (.int i),some (.str ⟨#[97 + ((c / 192 + 11 * (i:Int)) % 26).toNat]⟩)] = [some (.int c),some (.int n),some (.str lettersS),some (.int (c % 3)),some (.int (1 + c / 3 % 8)),some (.int (c / 24 % (1 + c / 3 % 8))),some (.ref p),x7,x8]∧Same H (upd H2 p (.lst (((List.range i).map (nmF c)).map V.str ++ [.str X])))∧(upd H2 p (.lst (((List.range i).map (nmF c)).map V.str ++ [.str X]))) p = some (.lst (((List.range (i + 1)).map (nmF c)).map V.str)):=fun X hX=>by
        refine ⟨_,_,rfl,hS.upd hp,?_⟩
        rw [upd_same,hX,List.range_succ,List.map_append,List.map_append];rfl
      have hlen:(((List.range i).map (nmF c)).map V.str).length < sizeLine:=by simp only [List.length_map,List.length_range];exact szl (by omega)
      refine ⟨_,rfl,_,rfl,_,_,rfl,rfl,⟨by decide,by decide⟩,_,rfl,_,_,rfl,rfl,.inl ⟨by decide,by decide⟩,_,_,rfl,rfl,_,_,rfl,rfl,(by show (0:Int) < 26;decide),_,_,_,rfl,rfl,(by decide +kernel),letter_at m1 m2,?_⟩
      refine ⟨_,rfl,rfl,_,rfl,iteD (fun h0=>?_) (fun h0=>?_)⟩
      · have h0:c % 3 = 0:=by injection h0
        refine ⟨_,rfl,.inl ⟨rfl,_,SqL.of hP⟩,_,rfl,_,109,_,rfl,rfl,hm,by omega,by omega,_,rfl,_,_,rfl,rfl,?_,_,rfl,_,rfl,_,_,rfl,rfl,_,_,rfl,rfl,_,109,_,rfl,rfl,hm,by omega,by omega,_,_,rfl,rfl,?_,p,_,_,rfl,rfl,hP,hlen,fin _ ?_⟩
        · show (ofC _).length + 1≤sizeLine
          rw [lo];exact sz (by omega)
        · rw [str_len,lo,lo]
          show _ + 1 + _≤sizeLine
          exact sz (by omega)
        · unfold nmF
          rw [if_pos h0]
          apply L2.Str.ext'
          rw [show ∀ x y:Str,(x ++ y).cps.toList = cs x ++ cs y from cs_append,show ∀ x y:Str,cs (x ++ y) = cs x ++ cs y from cs_append,cs_ofC,cs_ofC]
      · refine ⟨_,rfl,rfl,_,rfl,iteD (fun h1=>?_) (fun h1=>?_)⟩
        · have h1:c % 3 = 1:=by injection h1
          have k1:=Int.emod_nonneg ((i:Int) * i + c / 192) (show (8:Int)≠0 by decide)
          have k2:=Int.emod_lt_of_pos ((i:Int) * i + c / 192) (show (0:Int) < 8 by decide)
          refine ⟨_,rfl,.inl ⟨rfl,_,SqL.of hP⟩,_,rfl,_,rfl,_,rfl,_,_,rfl,rfl,.inl ⟨by omega,by omega⟩,_,rfl,_,_,rfl,rfl,⟨by decide,by decide⟩,_,_,rfl,rfl,_,_,rfl,rfl,(by show (0:Int) < 8;decide),_,109,_,rfl,rfl,hm,k1,by omega,_,_,rfl,rfl,?_,p,_,_,rfl,rfl,hP,hlen,fin _ ?_⟩
          · rw [lo]
            show 1 + _≤sizeLine
            exact sz (by omega)
          · unfold nmF
            rw [if_neg (by omega),if_pos h1]
            apply L2.Str.ext'
            rw [show ∀ x y:Str,(x ++ y).cps.toList = cs x ++ cs y from cs_append,cs_ofC]
        · have h2:c % 3 = 2:=by
            have z0:¬ c % 3 = 0:=fun z=>h0 (by rw [z])
            have z1:¬ c % 3 = 1:=fun z=>h1 (by rw [z])
            omega
          have m3:=Int.emod_nonneg (c / 192 + (i:Int) / 4) (show (26:Int)≠0 by decide)
          have m4:=Int.emod_lt_of_pos (c / 192 + (i:Int) / 4) (show (0:Int) < 26 by decide)
          refine ⟨_,rfl,.inl ⟨rfl,_,SqL.of hP⟩,_,rfl,_,rfl,_,_,rfl,rfl,⟨by decide,by decide⟩,_,rfl,_,_,rfl,rfl,⟨by decide,by decide⟩,_,_,rfl,rfl,_,_,rfl,rfl,(by show (0:Int) < 26;decide),_,_,_,rfl,rfl,(by decide +kernel),letter_at m3 m4,?_⟩
          refine ⟨_,rfl,_,_,rfl,rfl,(by show (0:Int) < 4;decide),_,_,rfl,rfl,_,98,_,rfl,rfl,hb,by omega,by omega,_,_,rfl,rfl,?_,p,_,_,rfl,rfl,hP,hlen,fin _ ?_⟩
          · rw [lo]
            show 1 + _≤sizeLine
            exact sz (by omega)
          · unfold nmF
            rw [if_neg (by omega),if_neg (by omega)]
            apply L2.Str.ext'
            rw [show ∀ x y:Str,(x ++ y).cps.toList = cs x ++ cs y from cs_append,cs_ofC]
    · obtain ⟨x7,x8,rfl,hS,hP⟩:=pv
      exact ⟨_,rfl,q p H2 _ hS hp hP (by simp) (nmF_nodup c (by omega))⟩
theorem pick3 {a b n B:Int} (hB:0≤B) (ha:0≤a∧a≤B) (hb:0≤b∧b≤B):∃ v,(0≤v∧v≤B)∧atI [V.int 0,V.int a,V.int b] (n % 3) = some (.int v):=by
  have:n % 3 = 0∨n % 3 = 1∨n % 3 = 2:=by omega
  rcases this with e | e | e <;> rw [e]
  · exact ⟨0,⟨by omega,hB⟩,rfl⟩
  · exact ⟨a,ha,rfl⟩
  · exact ⟨b,hb,rfl⟩
inductive Sp_net12  (vs:List V) (H:Hp) (Q:VK):Prop
  | mk (b:Addr) (ks:List Str) (c m:Int):(vs = [.ref b,.int c,.int m])→(H b = some (.lst (ks.map V.str)))→(ks.Nodup)→(ks.length≤12)→(0≤m)→(m≤100)→(∀ p H',NS H p ks 1000000000 H'→Q (.ref p) H')→Sp_net12  vs H Q
def sp_net12 :Sp:=fun vs H Q _=>Sp_net12  vs H Q
theorem ok_l_net (T:Txt K mg t):FnOk P w K mg base CX0 2 t.l_net t.fd_l_net ["_law_names_here","_law_cell_here","_law_more"] sp_net12:=by
  refine T.f_l_net.fn.ok sc_l_net (fun vs H Q E h=>?_) (fun cdv A outer s H vs Q E hr h=>?_)
  · obtain ⟨b,ks,c,m,rfl,_⟩:=h;rfl
  · obtain ⟨b,ks,c,m,rfl,hK,hnd,hlen,hm0,hm1,q⟩:=h
    have hu:=hu_of hr
    refine ltX ?_
    intro X' D'
    refine ⟨_,(pss_consL (ps_set (i:=3) sc_l_net.nd rfl (Or.inl rfl) pe_dnewK)
      (pss_consL (ps_forL PassesOwn.never rfl (pi_list (pv 0)) (pg_name (i:=4) sc_l_net.nd rfl (Or.inl rfl))
        (pss_one (ps_dput hu (pv 3) (pv 4) pe_dnewK rfl)))
      (pss_consL (ps_set (i:=5) sc_l_net.nd rfl (Or.inl rfl) (pe_op op_fdiv (pv 1) pe_int))
      (pss_consL (ps_forL PassesOwn.never rfl (pi_range1 rfl T.b_range (pa_cons (pe_callB call_len (by rfl) T.b_len boot_len' (pa_cons (pv 0) pa_nil)) pa_nil)) (pg_name (i:=6) sc_l_net.nd rfl (Or.inl rfl))
        (pss_one (ps_forL PassesOwn.never rfl (pi_range1 rfl T.b_range (pa_cons (pv 6) pa_nil)) (pg_name (i:=7) sc_l_net.nd rfl (Or.inl rfl))
        (pss_consL (ps_set (i:=8) sc_l_net.nd rfl (Or.inl rfl) (pe_op op_mod (pv 5) pe_int))
      (pss_consL (ps_set (i:=5) sc_l_net.nd rfl (Or.inl rfl) (pe_op op_fdiv (pv 5) pe_int))
      (pss_consL (ps_ifL (pt_cmpR op_eq (pe_op op_mod (pv 1) pe_int) pe_int (nomark _))
        (pss_consL (ps_set (i:=9) sc_l_net.nd rfl (Or.inl rfl) (pe_call (ok_l_mix T) (hr.mono (by decide)) rfl T.f_l_mix.mg T.f_l_mix.kp T.f_l_mix.bd .nil pass0 (pa_cons (pv 1) (pa_cons (pe_op op_add (pe_op op_mul pe_int (pv 6)) (pv 7)) pa_nil))))
      (pss_one (ps_set (i:=8) sc_l_net.nd rfl (Or.inl rfl) (pe_ix ix_list (pe_lst (pa_cons pe_int (pa_cons (pe_op op_add pe_int (pe_op op_mod (pe_op op_fdiv (pv 9) pe_int) pe_int)) (pa_cons (pe_op op_add pe_int (pe_op op_mod (pe_op op_mul (pe_op op_fdiv (pv 9) pe_int) pe_int) (pe_op op_pow pe_int pe_int))) pa_nil)))) (pe_op op_mod (pe_op op_mod (pe_op op_mul (pe_op op_mod (pv 9) pe_int) (pv 2)) pe_int) pe_int) (fun _ _=>rfl)))))
        pss_nil)
      (pss_one (ps_ifL (pt_cmpR op_gt (pv 8) pe_int (nomark _))
        (pss_consL (ps_dput hu (pe_dget hu (pv 3) (pe_ix ix_list (pv 0) (pv 6) (fun _ _=>rfl)) (fun _ _=>rfl)) (pe_ix ix_list (pv 0) (pv 7) (fun _ _=>rfl)) (pv 8) rfl)
      (pss_one (ps_dput hu (pe_dget hu (pv 3) (pe_ix ix_list (pv 0) (pv 7) (fun _ _=>rfl)) (fun _ _=>rfl)) (pe_ix ix_list (pv 0) (pv 6) (fun _ _=>rfl)) (pv 8) rfl)))
        pss_nil))))))))
      (pss_one (ps_ret (pv 3))))))),?_⟩
    extract_lets +lift
    intro p hp
    refine ⟨_,rfl,b,rfl,⟨_,SqL.of ((Same.updN hp) _ _ hK)⟩,(let I'2:Nat→L2.St→Hp→Prop:=fun i σ H2=>∃ x4 bs,σ = [some (.ref b),some (.int c),some (.int m),some (.ref p),x4,none,none,none,none,none]∧Same H H2∧NetAt H2 p bs (fun _=>[])∧bs.map (·.1) = ks.take i∧New H p bs;for_list (xs:=ks.map V.str) I'2 ?_ (fun i σ H2 hi pv=>?_) (fun i x σ H2 hx pv=>?_) (fun σ H2 pv=>?_))⟩
    · refine ⟨none,[],rfl,Same.updN hp,⟨upd_same,fun _ h=>absurd h (by simp),List.nodup_nil,by simp⟩,rfl,hp,fun _ h=>absurd h (by simp)⟩
    · obtain ⟨x4,bs,rfl,hS,_⟩:=pv
      exact SqL.of (hS _ _ hK)
    · obtain ⟨x4,bs,rfl,hS,hN,hbs,hnew⟩:=pv
      rw [List.getElem?_map] at hx
      cases hk:ks[i]? with
      | none=>rw [hk] at hx;cases hx
      | some k =>
      rw [hk] at hx
      cases hx
      have hfresh:k∉bs.map (·.1):=by rw [hbs];exact nodup_take hnd hk
      have hbl:bs.length≤12:=by
        have:=congrArg List.length hbs
        rw [List.length_map,List.length_take] at this
        omega
      intro r hr'
      obtain ⟨d1,d2⟩:=hN.add (x:=k) hfresh hr' (szl (by omega)) rfl
      refine ⟨_,rfl,_,rfl,p,_,rfl,d1,_,bs ++ [(k,r)],rfl,?_,d2,?_,hnew.1,fun z hz=>?_⟩
      · exact (hS.trans (Same.updN hr')).upd hp
      · rw [List.map_append,hbs,List.take_add_one,hk];rfl
      · rcases List.mem_append.mp hz with c | c
        · exact hnew.2 z c
        · rw [List.mem_singleton.mp c];exact hS.free hr'
    · obtain ⟨x4,bs,rfl,hS,hN,hbs,hnew⟩:=pv
      rw [List.length_map,List.take_of_length_le (Nat.le_refl _)] at hbs
      have hNS:NS H p ks 1000000000 H2:=⟨bs,_,hS,hN,hbs,hnew,GNet.nil ks _⟩
      clear hbs hnew hN
      refine ⟨_,rfl,_,_,rfl,rfl,⟨by decide,by decide⟩,?_⟩
      refine ⟨_,rfl,_,ks.length,rfl,.inl ⟨_,SqL.of (hS _ _ hK),by simp⟩,(ks.length:Int),rfl,by omega,by omega,?_⟩
      clear hS
      refine (let I'3:Nat→L2.St→Hp→Prop:=fun i σ H3=>∃ x4 x6 x7 x8 x9 dg,σ = [some (.ref b),some (.int c),some (.int m),some (.ref p),x4,some (.int dg),x6,x7,x8,x9]∧NS H p ks 1000000000 H3;for_range (n:=(ks.length:Int).toNat) I'3 ⟨_,_,_,_,_,_,rfl,hNS⟩ (fun i σ H3 hi pv=>?_) (fun σ H3 pv=>?_))
      · obtain ⟨x4,x6,x7,x8,x9,dg,rfl,hNS⟩:=pv
        have hi':i < ks.length:=by omega
        simp only [Int.zero_add]
        refine ⟨_,rfl,(i:Int),rfl,by omega,by omega,?_⟩
        refine (let I'4:Nat→L2.St→Hp→Prop:=fun j σ H3=>∃ x7 x8 x9 dg,σ = [some (.ref b),some (.int c),some (.int m),some (.ref p),x4,some (.int dg),some (.int i),x7,x8,x9]∧NS H p ks 1000000000 H3;for_range (n:=(i:Int).toNat) I'4 ⟨_,_,_,_,rfl,hNS⟩ (fun j σ H3 hj pv=>?_) (fun σ H3 pv=>?_))
        · obtain ⟨x7,x8,x9,dg,rfl,hNS⟩:=pv
          simp only [Int.zero_add]
          have hj1:j < i:=by omega
          refine ⟨_,rfl,_,_,rfl,rfl,(by show (0:Int) < 4;decide),?_⟩
          refine ⟨_,rfl,_,_,rfl,rfl,⟨by decide,by decide⟩,?_⟩
          have m1:=Int.emod_nonneg dg (show (4:Int)≠0 by decide)
          have m2:=Int.emod_lt_of_pos dg (show (0:Int) < 4 by decide)
          dsimp only [gName,Ends.seq]
          show tSeq (tIfS _ _ _) _ _ _ _
          refine (let I'5:L2.St→Hp→Prop:=fun σ H'=>∃ d v x9,σ = [some (.ref b),some (.int c),some (.int m),some (.ref p),x4,some (.int d),some (.int i),some (.int j),some (.int v),x9]∧0≤v∧v≤1000000000∧NS H p ks 1000000000 H';seqIf I'5 (fun σ H6 pv=>?_) (fun cont=>?_))
          · obtain ⟨d,v,x9,rfl,hv,hv2,hNS6⟩:=pv
            refine ⟨_,rfl,_,_,rfl,rfl,_,rfl,iteD (fun h0=>?_) (fun _=>⟨_,_,x9,d,rfl,hNS6⟩)⟩
            obtain ⟨bs,f,hS,hN,hbs,hnew,hg⟩:=hNS6
            obtain ⟨x,hx1,hx2,hx3⟩:=atI_ix (g:=V.str) (l:=ks) (i:=(i:Int)) (by omega) (by omega)
            obtain ⟨y,hy1,hy2,hy3⟩:=atI_ix (g:=V.str) (l:=ks) (i:=(j:Int)) (by omega) (by omega)
            have hxy:x≠y:=by
              intro e
              subst e
              have:=nd_ix hnd hx2 hy2
              omega
            have hK2:=SqL.of (K:=K) (hS _ _ hK)
            obtain ⟨b1,hb1⟩:=addrOf_some (bs:=bs) (x:=x) (by rw [hbs];exact hx1)
            obtain ⟨b2,hb2⟩:=addrOf_some (bs:=bs) (x:=y) (by rw [hbs];exact hy1)
            obtain ⟨p1,p2⟩:=hN.put hb1 v y (row_len hg hx1 (by omega))
            refine ⟨_,rfl,_,rfl,_,rfl,_,rfl,_,_,_,_,rfl,rfl,hK2,hx3,p,_,rfl,hN.r.dget hb1,_,rfl,_,rfl,_,_,_,_,rfl,rfl,hK2,hy3,b1,_,rfl,p1,?_⟩
            have S4:=Same.netput (o:=.dK (encI (put (f x) y v))) hS hnew hb1
            have hK3:=SqL.of (K:=K) (S4 _ _ hK)
            have hl2:(putR f x y v y).length < sizeLine:=by rw [putR_ne (Ne.symm hxy)];exact row_len hg hy1 (by omega)
            obtain ⟨p3,p4⟩:=p2.put hb2 v x hl2
            refine ⟨_,rfl,_,rfl,_,rfl,_,rfl,_,_,_,_,rfl,rfl,hK3,hy3,p,_,rfl,p2.r.dget hb2,_,rfl,_,rfl,_,_,_,_,rfl,rfl,hK3,hx3,b2,_,rfl,p3,?_⟩
            exact ⟨_,_,x9,d,rfl,bs,_,Same.netput S4 hnew hb2,p4,hbs,hnew,hg.put hx1 hy1 hxy (by omega) (by omega)⟩
          · refine ⟨_,rfl,_,_,rfl,rfl,(by show (0:Int) < 2;decide),rfl,_,rfl,iteD (fun _=>?_) (fun _=>cont _ _ ⟨_,_,_,rfl,m1,by omega,hNS⟩)⟩
            obtain ⟨bs,f,hS,hN,hbs,hnew,hg⟩:=hNS
            refine ⟨_,rfl,_,rfl,_,_,rfl,rfl,.inl ⟨by decide,by decide⟩,_,rfl,_,_,rfl,rfl,c,_,rfl,by omega,by omega,fun n hn0 hn1=>?_⟩
            have q1:=Int.emod_nonneg (n / 6) (show (3:Int)≠0 by decide)
            have q2:=Int.emod_lt_of_pos (n / 6) (show (0:Int) < 3 by decide)
            have e9:(10:Int) ^ (9:Int).toNat = 1000000000:=by decide
            have q3:=Int.emod_nonneg (n / 6 * 7) (show (10:Int) ^ (9:Int).toNat≠0 by decide)
            have q4:=Int.emod_lt_of_pos (n / 6 * 7) (show (0:Int) < 10 ^ (9:Int).toNat by decide)
            rw [e9] at q4
            obtain ⟨v,⟨hv1,hv2⟩,hat⟩:=pick3 (n:=n % 6 * m % 7) (show (0:Int)≤1000000000 by decide) (a:=1 + n / 6 % 3) ⟨by omega,by omega⟩ (b:=1 + n / 6 * 7 % 10 ^ (9:Int).toNat) ⟨by omega,by omega⟩
            refine ⟨_,rfl,_,_,rfl,rfl,⟨by decide,by decide⟩,_,_,rfl,rfl,(by show (0:Int) < 3;decide),_,_,rfl,rfl,_,rfl,_,_,rfl,rfl,⟨by decide,by decide⟩,_,_,rfl,rfl,.inr ⟨by decide,by decide⟩,_,_,rfl,rfl,⟨by decide,by decide,by decide⟩,_,_,rfl,rfl,(by show (0:Int) < 10 ^ (9:Int).toNat;decide),_,_,rfl,rfl,(by show 3≤sizeLine;decide),fun lp hlp=>?_⟩
            refine ⟨_,rfl,_,_,rfl,rfl,(by show (0:Int) < 6;decide),_,rfl,_,_,rfl,rfl,.inr ⟨by omega,by omega⟩,_,_,rfl,rfl,(by show (0:Int) < 7;decide),_,_,rfl,rfl,(by show (0:Int) < 3;decide),lp,_,_,.int v,rfl,rfl,SqL.of upd_same,hat,?_⟩
            exact cont _ _ ⟨_,v,_,rfl,hv1,hv2,bs,f,hS.trans (Same.updN hlp),hN.same (Same.updN hlp),hbs,hnew,hg⟩
        · obtain ⟨x7,x8,x9,dg,rfl,hNS⟩:=pv
          exact ⟨_,_,_,_,_,_,rfl,hNS⟩
      · obtain ⟨x4,x6,x7,x8,x9,dg,rfl,hNS⟩:=pv
        exact ⟨_,rfl,q p H3 hNS⟩
end
end K15
namespace K15
open PySem L2 PySem.Spec PyProof.Rows
section
variable {P:Program} {w:World} {K:PySem.W.Frag} {mg:Str→Option Value} {base:Heap} {t:Adr}
inductive Sp_lcopy  (vs:List V) (H:Hp) (Q:VK):Prop
  | mk (a:Addr) (bs:Outer) (f:Str→L2.Row):(vs = [.ref a])→(NetAt H a bs f)→(bs.length≤12)→(∀ p H',NS0 H p (bs.map (·.1)) f H'→Q (.ref p) H')→Sp_lcopy  vs H Q
def sp_lcopy :Sp:=fun vs H Q _=>Sp_lcopy  vs H Q
theorem ok_l_copy (T:Txt K mg t):FnOk P w K mg base CX0 1 t.l_copy t.fd_l_copy ["_law_net_here"] sp_lcopy:=by
  refine T.f_l_copy.fn.ok sc_l_copy (fun vs H Q E h=>?_) (fun cdv A outer s H vs Q E hr h=>?_)
  · obtain ⟨a,bs,f,rfl,_⟩:=h;rfl
  · obtain ⟨a,bs,f,rfl,hN,hlen,q⟩:=h
    have hu:=hu_of hr
    refine ltX ?_
    intro X' D'
    refine ⟨_,(pss_consL (ps_set (i:=1) sc_l_copy.nd rfl (Or.inl rfl) pe_dnewK)
      (pss_consL (ps_forD PassesOwn.never rfl (pv 0) (pg_name (i:=2) sc_l_copy.nd rfl (Or.inl rfl))
        (pss_one (ps_dput hu (pv 1) (pv 2) (pe_bm0 PySem.F.plainAttrs_dict PySem.F.slot_dict_copy PySem.F.type_dict_copy mt_copyD (pe_dget hu (pv 0) (pv 2) (fun _ _=>rfl))) rfl)))
      (pss_one (ps_ret (pv 1))))),?_⟩
    extract_lets +lift
    intro p hp
    have pa:a≠p:=ne_of_none hN.out hp
    have S0:=Same.updN (o:=.dK []) hp
    have hN1:=hN.same S0
    refine ⟨_,rfl,a,_,rfl,.inl hN1.out,fun o H2 fz=>(let I'1:Nat→L2.St→Hp→Prop:=fun i σ H3=>∃ x2 cs,σ = [some (.ref a),some (.ref p),x2]∧(∀ b u,b≠a→H b = some u→H3 b = some u)∧H3 a = some (.frz o (.dK (encO bs)))∧NetAt H3 p cs f∧cs.map (·.1) = (bs.map (·.1)).take i∧New H p cs;forDm hN1.out fz I'1 (fun e=>?_) (fun _ _ _ h=>?_) (fun i k v σ H3 hk pv=>?_) (fun σ H3 pv=>?_))⟩
    · subst e
      refine ⟨_,[],rfl,fun b u hb e=>by rw [upd_ne hb];exact S0 _ _ e,upd_same,⟨by rw [upd_ne (Ne.symm pa),upd_same];rfl,fun _ h=>absurd h (by simp),List.nodup_nil,by simp⟩,rfl,hp,fun _ h=>absurd h (by simp)⟩
    · obtain ⟨_,_,_,_,h,_⟩:=h;exact h
    · obtain ⟨x2,cs,rfl,hrest,ha,hC,hcs,hnew⟩:=pv
      unfold encO at hk
      rw [List.getElem?_map] at hk
      cases hb:bs[i]? with
      | none=>rw [hb] at hk;cases hk
      | some z =>
      rw [hb] at hk
      cases hk
      have hz:z∈bs:=List.mem_of_getElem? hb
      have had:=mem_addrOf hN.ks (x:=z.1) (b:=z.2) hz
      have hza:z.2≠a:=hN.ne had
      have hrow:=hrest _ _ hza (hN.inn z hz)
      have hfresh:z.1∉cs.map (·.1):=by rw [hcs];exact nodup_take hN.ks (by rw [List.getElem?_map,hb];rfl)
      have hcl:cs.length≤12:=by
        have:=congrArg List.length hcs
        rw [List.length_map,List.length_take,List.length_map] at this
        omega
      refine ⟨_,rfl,_,rfl,a,.ref z.2,rfl,.inl ⟨encO bs,Sum.inr z.1,.inr ⟨o,ha⟩,rfl,by rw [valV_encO,had];rfl⟩,.inr (.inr (.inl ⟨rfl,.inl ⟨_,hrow⟩⟩)),z.2,_,rfl,rfl,.inl hrow,fun r2 hr2=>?_⟩
      obtain ⟨d1,d2⟩:=hC.add2 (x:=z.1) hfresh hr2 (szl (by omega))
      have r2a:r2≠a:=fun e=>by rw [e,ha] at hr2;cases hr2
      refine ⟨_,rfl,_,rfl,p,_,rfl,d1,_,cs ++ [(z.1,r2)],rfl,fun b u hba e=>?_,?_,d2,?_,hnew.1,fun y hy=>?_⟩
      · have e3:=hrest b u hba e
        rw [upd_ne (ne_of_none e hp),upd_ne (ne_of_none e3 hr2)];exact e3
      · rw [upd_ne pa,upd_ne (Ne.symm r2a)];exact ha
      · rw [List.map_append,hcs,List.take_add_one,List.getElem?_map,hb];rfl
      · rcases List.mem_append.mp hy with c | c
        · exact hnew.2 y c
        · rw [List.mem_singleton.mp c]
          cases hh:H r2 with
          | none=>rfl
          | some u=>rw [hrest r2 u r2a hh] at hr2;cases hr2
    · obtain ⟨x2,cs,rfl,hrest,ha,hC,hcs,hnew⟩:=pv
      have el:(encO bs).length = (bs.map (·.1)).length:=by unfold encO;simp
      rw [el,List.take_of_length_le (Nat.le_refl _)] at hcs
      refine ⟨_,rfl,q p _ ⟨cs,fun b u e=>?_,?_,hcs,hnew⟩⟩
      · by_cases hb:b = a
        · subst hb
          rw [upd_same];rw [hN.out] at e;exact e
        · rw [upd_ne hb];exact hrest b u hb e
      · exact hC.updo (Ne.symm pa) fun z hz e=>by have:=hnew.2 z hz;rw [e,hN.out] at this;cases this
inductive Sp_lturned  (vs:List V) (H:Hp) (Q:VK):Prop
  | mk (a:Addr) (bs:Outer) (f:Str→L2.Row):(vs = [.ref a])→(NetR H a bs f)→(bs.length≤1000)→((∀ x∈bs.map (·.1),((f x).map (·.1)).Nodup∧(f x).length≤1000))→(∀ p H',NS0 H p (bs.map (·.1)).reverse (fun x=>(f x).reverse) H'→Q (.ref p) H')→Sp_lturned  vs H Q
def sp_lturned :Sp:=fun vs H Q _=>Sp_lturned  vs H Q
theorem ok_l_turned (T:Txt K mg t):FnOk P w K mg base CX0 1 t.l_turned t.fd_l_turned ["_law_net_here"] sp_lturned:=by
  refine T.f_l_turned.fn.ok sc_l_turned (fun vs H Q E h=>?_) (fun cdv A outer s H vs Q E hr h=>?_)
  · obtain ⟨a,bs,f,rfl,_⟩:=h;rfl
  · obtain ⟨a,bs,f,rfl,hN,hbl,hrow,q⟩:=h
    have hu:=hu_of hr
    have hknd:=hN.ks
    refine ltX ?_
    intro X' D'
    refine ⟨_,(pss_consL (ps_set (i:=1) sc_l_turned.nd rfl (Or.inl rfl) pe_dnewK)
      (pss_consL (ps_forL PassesOwn.never rfl (pi_revL rfl T.b_reversed (pa_cons (pe_callTy call_listD (by rfl) T.b_list boot_ty_list (pa_cons (pv 0) pa_nil)) pa_nil)) (pg_name (i:=2) sc_l_turned.nd rfl (Or.inl rfl))
        (pss_consL (ps_set (i:=3) sc_l_turned.nd rfl (Or.inl rfl) pe_dnewK)
      (pss_consL (ps_forL PassesOwn.never rfl (pi_revL rfl T.b_reversed (pa_cons (pe_callTy call_listD (by rfl) T.b_list boot_ty_list (pa_cons (pe_dget hu (pv 0) (pv 2) (fun _ _=>rfl)) pa_nil)) pa_nil)) (pg_name (i:=4) sc_l_turned.nd rfl (Or.inl rfl))
        (pss_one (ps_dput hu (pv 3) (pv 4) (pe_dget hu (pe_dget hu (pv 0) (pv 2) (fun _ _=>rfl)) (pv 4) (fun _ _=>rfl)) rfl)))
      (pss_one (ps_dput hu (pv 1) (pv 2) (pv 3) rfl)))))
      (pss_one (ps_ret (pv 1))))),?_⟩
    extract_lets +lift
    intro p hp
    have S0:=Same.updN (o:=.dK []) hp
    refine ⟨_,rfl,rfl,a,_,rfl,(hN.sm S0.sm).out,fun r hr'=>⟨r,_,rfl,SqL.of upd_same,?_⟩⟩
    rw [encO_keys]
    generalize hks:bs.map (·.1) = ks at hrow q hknd
    have hkl:ks.length≤1000:=by rw [← hks,List.length_map];exact hbl
    have S1:=S0.trans (Same.updN (o:=.lst (ks.map V.str)) hr')
    have pr:p≠r:=fun e=>by rw [← e,upd_same] at hr';cases hr'
    refine (let I'2:Nat→L2.St→Hp→Prop:=fun i σ H2=>∃ x2 x3 x4 cs',σ = [some (.ref a),some (.ref p),x2,x3,x4]∧Same H H2∧H2 r = some (.lst (ks.map V.str))∧NetAt H2 p cs' (fun x=>(f x).reverse)∧cs'.map (·.1) = ks.reverse.take i∧New H p cs';for_rev (xs:=ks.map V.str) I'2 ?_ (fun i σ H2 hi pv=>?_) (fun i z σ H2 hz pv=>?_) (fun σ H2 pv=>?_))
    · refine ⟨_,_,_,[],rfl,S1,upd_same,⟨by rw [upd_ne pr,upd_same];rfl,fun _ h=>absurd h (by simp),List.nodup_nil,by simp⟩,rfl,⟨hp,fun _ h=>absurd h (by simp)⟩⟩
    · obtain ⟨_,_,_,_,rfl,_,hR,_⟩:=pv
      exact SqL.of hR
    · obtain ⟨x2,x3,x4,cs',rfl,hS,hR,hA,hcs,hnew⟩:=pv
      rw [← List.map_reverse,List.getElem?_map] at hz
      cases hk:ks.reverse[i]? with
      | none=>rw [hk] at hz;cases hz
      | some k =>
      rw [hk] at hz
      cases hz
      have hkm:k∈ks:=List.mem_reverse.mp (List.mem_of_getElem? hk)
      have hknew:=nodup_take (nd_rev hknd) hk
      have hi':i < ks.length:=by
        have:=(List.getElem?_eq_some_iff.mp hk).1
        rw [List.length_reverse] at this;exact this
      have hcl:cs'.length≤1000:=by
        have:=congrArg List.length hcs
        rw [List.length_map,List.length_take,List.length_reverse] at this
        omega
      obtain ⟨hfnd,hfl⟩:=hrow k hkm
      intro r2 hr2
      have hpr2:r2≠p:=fun e=>by rw [e,hA.out] at hr2;cases hr2
      have hSa:=hS.trans (Same.updN (o:=.dK []) hr2)
      have hRa:(upd H2 r2 (.dK [])) r = some (.lst (ks.map V.str)):=by rw [upd_ne (ne_of_none hR hr2)];exact hR
      have hAa:=hA.same (Same.updN (o:=.dK []) hr2)
      have hra:(upd H2 r2 (.dK [])) r2 = some (.dK (encI ((f k).reverse.take 0))):=upd_same
      have hr20:H r2 = none:=hS.free hr2
      have hin:∀ z∈cs',z.2≠r2:=fun z hz e=>by
        have:=hA.inn z hz
        rw [e,hr2] at this;cases this
      generalize upd H2 r2 (.dK []) = Ha at hSa hRa hAa hra
      have hNa:=hN.sm hSa.sm
      obtain ⟨b,hb⟩:=addrOf_some (bs:=bs) (x:=k) (hks ▸ hkm)
      refine ⟨_,rfl,_,rfl,a,.ref b,rfl,hNa.dget hb,rfl,b,_,rfl,hNa.inn _ (addrOf_mem hb),fun r3 hr3=>⟨r3,_,rfl,SqL.of upd_same,?_⟩⟩
      rw [encI_keys]
      have r3r:r≠r3:=ne_of_none hRa hr3
      have r23:r2≠r3:=ne_of_none hra hr3
      refine (let I'3:Nat→L2.St→Hp→Prop:=fun j σ H3=>∃ x4,σ = [some (.ref a),some (.ref p),some (.str k),some (.ref r2),x4]∧Same H H3∧H3 r = some (.lst (ks.map V.str))∧H3 r3 = some (.lst (((f k).map (·.1)).map V.str))∧NetAt H3 p cs' (fun x=>(f x).reverse)∧H3 r2 = some (.dK (encI ((f k).reverse.take j)));for_rev (xs:=((f k).map (·.1)).map V.str) I'3 ?_ (fun j σ H3 hj pv=>?_) (fun j z σ H3 hz pv=>?_) (fun σ H3 pv=>?_))
      · exact ⟨_,rfl,hSa.trans (Same.updN hr3),by rw [upd_ne r3r];exact hRa,upd_same,hAa.same (Same.updN hr3),by rw [upd_ne r23];exact hra⟩
      · obtain ⟨_,rfl,_,_,hR3,_⟩:=pv
        exact SqL.of hR3
      · obtain ⟨x4,rfl,hS3,hR1,hR3,hA3,hr2e⟩:=pv
        rw [← List.map_reverse,List.getElem?_map,← List.map_reverse,List.getElem?_map] at hz
        cases he:(f k).reverse[j]? with
        | none=>rw [he] at hz;cases hz
        | some e =>
        rw [he] at hz
        cases hz
        obtain ⟨y,v⟩:=e
        have hem:(y,v)∈f k:=List.mem_reverse.mp (List.mem_of_getElem? he)
        have hv:look (f k) y = some v:=mem_look hfnd hem
        have hno:look ((f k).reverse.take j) y = none:=by
          refine look_none.mpr fun hm=>?_
          rw [List.map_take] at hm
          have h1:((f k).reverse.map (·.1))[j]? = some y:=by rw [List.getElem?_map,he];rfl
          refine nodup_take ?_ h1 hm
          rw [List.map_reverse];exact nd_rev hfnd
        have hN3:=hN.sm hS3.sm
        have hl:((f k).reverse.take j).length < sizeLine:=by rw [List.length_take,List.length_reverse];exact szl (by omega)
        have p1:=DPut.k (k:=Sum.inr y) (v:=.int v) hr2e (by rw [encI_len];exact hl)
        rw [encI_put,put_new hno] at p1
        refine ⟨_,rfl,_,rfl,a,_,rfl,hN3.dget hb,_,rfl,b,_,rfl,hN3.rget' hb hv,_,rfl,_,rfl,r2,_,rfl,p1,?_⟩
        refine ⟨_,rfl,hS3.upd hr20,?_,?_,hA3.updo hpr2.symm hin,?_⟩
        · rw [upd_ne (ne_of hR1 hr2e (by intro z;cases z))];exact hR1
        · rw [upd_ne (Ne.symm r23)];exact hR3
        · rw [upd_same,List.take_add_one,he];rfl
      · obtain ⟨x4,rfl,hS3,hR1,hR3,hA3,hr2e⟩:=pv
        have hlen:(((f k).map (·.1)).map V.str).length = (f k).reverse.length:=by simp
        rw [hlen,List.take_of_length_le (Nat.le_refl _)] at hr2e
        obtain ⟨d1,d2⟩:=hA3.add3 (x:=k) (by rw [hcs];exact hknew) hr2e hpr2 hin (szl hcl)
        refine ⟨_,rfl,_,rfl,_,rfl,p,_,rfl,d1,?_⟩
        refine ⟨_,_,_,cs' ++ [(k,r2)],rfl,hS3.upd hp,?_,d2,?_,hnew.1,fun z hz=>?_⟩
        · rw [upd_ne (Ne.symm pr)];exact hR1
        · rw [List.map_append,hcs,List.take_add_one,hk];rfl
        · rcases List.mem_append.mp hz with c | c
          · exact hnew.2 z c
          · rw [List.mem_singleton.mp c];exact hr20
    · obtain ⟨x2,x3,x4,cs',rfl,hS,hR,hA,hcs,hnew⟩:=pv
      rw [List.length_map] at hcs
      have e0:ks.reverse.take ks.length = ks.reverse:=List.take_of_length_le (by rw [List.length_reverse];exact Nat.le_refl _)
      rw [e0] at hcs
      exact ⟨_,rfl,q p H2 ⟨cs',hS,hA,hcs,hnew⟩⟩
end
end K15
namespace K15
open PySem L2 PySem.Spec PyProof.Rows
section
variable {P:Program} {w:World} {K:PySem.W.Frag} {mg:Str→Option Value} {base:Heap} {t:Adr}
theorem filter_ne_len {x:Str}:∀ {l:List Str},l.Nodup→x∈l→(l.filter fun y=>decide (y≠x)).length + 1 = l.length
  | [],_,h=>absurd h (by simp)
  | a :: l,nd,h=>by
    rw [List.nodup_cons] at nd
    by_cases c:a = x
    · subst c
      have:(l.filter fun y=>decide (y≠a)) = l:=List.filter_eq_self.mpr fun y hy=>by simp only [decide_eq_true_eq];intro e;subst e;exact nd.1 hy
      rw [List.filter_cons_of_neg (by simp),this];rfl
    · rw [List.filter_cons_of_pos (by simpa using c),List.length_cons,List.length_cons]
      have:=filter_ne_len nd.2 ((List.mem_cons.mp h).resolve_left fun e=>c e.symm)
      omega
def onF (ks:List Str) (f:Str→L2.Row) (x:Str):L2.Row:=if x∈ks then f x else []
theorem onF_in {ks:List Str} {f:Str→L2.Row} {x:Str} (h:x∈ks):onF ks f x = f x:=if_pos h
theorem onF_net {H:Hp} {p:Addr} {bs:Outer} {f:Str→L2.Row} (n:NetAt H p bs f):NetAt H p bs (onF (bs.map (·.1)) f) :=
  ⟨n.out,fun z hz=>by rw [onF_in (List.mem_map.mpr ⟨z,hz,rfl⟩)];exact n.inn z hz,n.ks,n.nd⟩
theorem onF_g {ks:List Str} {f:Str→L2.Row} {B:Int} (g:GNet ks f B):GNet ks (onF ks f) B :=
  ⟨fun x y hx hy=>by rw [onF_in hx,onF_in hy];exact g.sym x y hx hy,fun x hx=>by rw [onF_in hx];exact g.irr x hx,fun x y v hx=>by rw [onF_in hx];exact g.val x y v hx,fun x hx=>by rw [onF_in hx];exact g.nd x hx⟩
theorem onF_nd {ks:List Str} {f:Str→L2.Row} {B:Int} (g:GNet ks f B) (x:Str):((onF ks f x).map (·.1)).Nodup:=by
  by_cases h:x∈ks
  · rw [onF_in h];exact g.nd x h
  · unfold onF;rw [if_neg h];exact List.nodup_nil
inductive Sp_law (K:PySem.W.Frag) (vs:List V) (H:Hp) (Q:VK):Prop
  | mk (a:Addr) (ns:List Int):(vs = [.ref a])→(ns.length≤63)→(SqL K H a (ns.map V.int))→(∀ H',Q (.bl true) H')→Sp_law K vs H Q
def sp_law (K:PySem.W.Frag):Sp:=fun vs H Q _=>Sp_law K vs H Q
theorem ok_law (T:Txt K mg t):FnOk P w K mg base CX0 7 t.law t.fd_law ["_law_script"] (sp_law K):=by
  refine T.f_law.fn.ok sc_law (fun vs H Q E h=>?_) (fun cdv A outer s H vs Q E hr h=>?_)
  · obtain ⟨a,ns,rfl,_⟩:=h;rfl
  · obtain ⟨a,ns,rfl,hnl,hA,q⟩:=h
    have hu:=hu_of hr
    have hu8:(A.deeper _).units + 8 < cLine:=Nat.lt_of_le_of_lt (Nat.add_le_add_left (by decide:8≤64) _) hr.units
    refine ltX ?_
    intro X' D'
    refine ⟨_,(pss_consL (ps_set (i:=1) sc_law.nd rfl (Or.inl rfl) (pe_call (ok_l_names T) (hr.mono (by decide)) rfl T.f_l_names.mg T.f_l_names.kp T.f_l_names.bd .nil pass0 (pa_cons (pe_call (ok_l_cell T) (hr.mono (by decide)) rfl T.f_l_cell.mg T.f_l_cell.kp T.f_l_cell.bd .nil pass0 (pa_cons (pv 0) (pa_cons pe_int pa_nil))) (pa_cons (pe_op op_add pe_int (pe_op op_mod (pe_call (ok_l_cell T) (hr.mono (by decide)) rfl T.f_l_cell.mg T.f_l_cell.kp T.f_l_cell.bd .nil pass0 (pa_cons (pv 0) (pa_cons pe_int pa_nil))) pe_int)) pa_nil))))
      (pss_consL (ps_set (i:=2) sc_law.nd rfl (Or.inl rfl) (pe_call (ok_l_net T) (hr.mono (by decide)) rfl T.f_l_net.mg T.f_l_net.kp T.f_l_net.bd .nil pass0 (pa_cons (pv 1) (pa_cons (pe_call (ok_l_cell T) (hr.mono (by decide)) rfl T.f_l_cell.mg T.f_l_cell.kp T.f_l_cell.bd .nil pass0 (pa_cons (pv 0) (pa_cons pe_int pa_nil))) (pa_cons (pe_op op_add pe_int (pe_op op_mod (pe_op op_fdiv (pe_call (ok_l_cell T) (hr.mono (by decide)) rfl T.f_l_cell.mg T.f_l_cell.kp T.f_l_cell.bd .nil pass0 (pa_cons (pv 0) (pa_cons pe_int pa_nil))) pe_int) pe_int)) pa_nil)))))
      (pss_consL (ps_set (i:=3) sc_law.nd rfl (Or.inl rfl) (pe_call (ok_l_copy T) (hr.mono (by decide)) rfl T.f_l_copy.mg T.f_l_copy.kp T.f_l_copy.bd .nil pass0 (pa_cons (pv 2) pa_nil)))
      (pss_consL (ps_set (i:=4) sc_law.nd rfl (Or.inl rfl) (pe_call (ok_l_turned T) (hr.mono (by decide)) rfl T.f_l_turned.mg T.f_l_turned.kp T.f_l_turned.bd .nil pass0 (pa_cons (pv 2) pa_nil)))
      (pss_consL (ps_forL PassesOwn.never rfl (pi_list (pe_slice sl_list (pe_op op_catS (pv 0) (pe_lst (pa_cons pe_int (pa_cons pe_int (pa_cons pe_int (pa_cons pe_int pa_nil)))))) (po_some pe_int) (po_some pe_int))) (pg_name (i:=5) sc_law.nd rfl (Or.inl rfl))
        (pss_consL (ps_set (i:=6) sc_law.nd rfl (Or.inr rfl) (pe_ix ix_list (pv 1) (pe_op op_mod (pe_call (ok_l_mix T) (hr.mono (by decide)) rfl T.f_l_mix.mg T.f_l_mix.kp T.f_l_mix.bd .nil pass0 (pa_cons (pv 5) (pa_cons pe_int pa_nil))) (pe_callB call_len (by rfl) T.b_len boot_len' (pa_cons (pv 1) pa_nil))) (fun _ _=>rfl)))
      (pss_consL (ps_set (i:=7) sc_law.nd rfl (Or.inl rfl) (pe_ix ix_list (pe_comp ["_law_name"] [6] rfl (pi_list (pv 1)) (fun _ _ _ _ _=>(pg_name (i:=0) (show (["_law_name","_law_one"]:List Str).Nodup by decide +kernel) rfl (Or.inl rfl))) (fun _ _ _ _ _=>(pif_one (pt_cmpR op_ne (pv 0) (pv 1) (nomark _)))) (fun _ _ _ _ _=>(pv 0)) ⟨⟨_,rfl,rfl,.inl rfl⟩,trivial⟩ (hfr:=by show ∀ y∈(_:List (Str×NameKind)),y.2 = NameKind.free→(defScope s_law).names.lookup y.1 = some NameKind.cell∨(defScope s_law).names.lookup y.1 = some NameKind.free;decide +kernel)) (pe_op op_mod (pe_call (ok_l_mix T) (hr.mono (by decide)) rfl T.f_l_mix.mg T.f_l_mix.kp T.f_l_mix.bd .nil pass0 (pa_cons (pv 5) (pa_cons pe_int pa_nil))) (pe_op op_sub (pe_callB call_len (by rfl) T.b_len boot_len' (pa_cons (pv 1) pa_nil)) pe_int)) (fun _ _=>rfl)))
      (pss_consL (ps_set (i:=8) sc_law.nd rfl (Or.inl rfl) (pe_ix ix_list (pv 1) (pe_op op_mod (pe_call (ok_l_mix T) (hr.mono (by decide)) rfl T.f_l_mix.mg T.f_l_mix.kp T.f_l_mix.bd .nil pass0 (pa_cons (pv 5) (pa_cons pe_int pa_nil))) (pe_callB call_len (by rfl) T.b_len boot_len' (pa_cons (pv 1) pa_nil))) (fun _ _=>rfl)))
      (pss_consL (ps_ifL (pt_not (pt_val (pe_call (ok_l_both T) (hr.mono (by decide)) rfl T.f_l_both.mg T.f_l_both.kp T.f_l_both.bd .nil pass0 (pa_cons (pv 2) (pa_cons (pv 4) (pa_cons (pv 6) (pa_cons (pv 7) pa_nil)))))))
        (pss_one (ps_ret pe_bl))
        pss_nil)
      (pss_one (ps_ifL (PW.pt (pw_and (pt_cmpR op_ne (pv 8) (pv 6) (nomark _)) (pw_and1 (pt_cmpR op_ne (pv 8) (pv 7) (nomark _)))))
        (pss_consL (ps_set (i:=9) sc_law.nd rfl (Or.inl rfl) (pe_callB (call_min2 rfl) (by rfl) T.b_min boot_min' (pa_cons (pe_call (ok_most_between T) (hr.mono (by decide)) rfl T.f_most_between.mg T.f_most_between.kp T.f_most_between.bd .nil pass0 (pa_cons (pv 2) (pa_cons (pv 6) (pa_cons (pv 8) pa_nil)))) (pa_cons (pe_call (ok_most_between T) (hr.mono (by decide)) rfl T.f_most_between.mg T.f_most_between.kp T.f_most_between.bd .nil pass0 (pa_cons (pv 2) (pa_cons (pv 8) (pa_cons (pv 7) pa_nil)))) pa_nil))))
      (pss_one (ps_ifL (pt_cmpR op_lt (pe_call (ok_most_between T) (hr.mono (by decide)) rfl T.f_most_between.mg T.f_most_between.kp T.f_most_between.bd .nil pass0 (pa_cons (pv 2) (pa_cons (pv 6) (pa_cons (pv 7) pa_nil)))) (pv 9) (nomark _))
        (pss_one (ps_ret pe_bl))
        pss_nil)))
        pss_nil)))))))
      (pss_one (ps_ret (pe_cmpR (op_eqD hu8) (pv 2) (pv 3) (nomark _))))))))),?_⟩
    extract_lets +lift
    have c1:=Int.emod_nonneg (ns.getD (1:Int).toNat 0) (show (9:Int)≠0 by decide)
    have c2:=Int.emod_lt_of_pos (ns.getD (1:Int).toNat 0) (show (0:Int) < 9 by decide)
    refine ⟨_,rfl,a,ns,0,rfl,by decide,hA,_,rfl,a,ns,1,rfl,by decide,hA,_,_,rfl,rfl,(by show (0:Int) < 9;decide),_,_,rfl,rfl,_,_,rfl,by omega,by omega,fun b H1 ks S1 hb1 hb2 hkl hnd=>?_⟩
    have hk2:2≤ks.length:=by omega
    have hk10:ks.length≤10:=by omega
    have d1:=Int.emod_nonneg (ns.getD (1:Int).toNat 0 / 9) (show (6:Int)≠0 by decide)
    have d2:=Int.emod_lt_of_pos (ns.getD (1:Int).toNat 0 / 9) (show (0:Int) < 6 by decide)
    refine ⟨_,rfl,_,rfl,a,ns,2,rfl,by decide,S1.seq hA,_,rfl,a,ns,1,rfl,by decide,S1.seq hA,_,_,rfl,rfl,⟨by decide,by decide⟩,_,_,rfl,rfl,(by show (0:Int) < 6;decide),_,_,rfl,rfl,?_⟩
    refine ⟨b,ks,_,_,rfl,hb2,hnd,by omega,by omega,by omega,fun p Hn hNS=>?_⟩
    obtain ⟨bs,f1,S2,hN1,hbs,hnew,hg1⟩:=hNS
    have hN:=onF_net hN1
    rw [hbs] at hN
    have hg:=onF_g hg1
    have hnda:=onF_nd hg1
    generalize onF ks f1 = f at hN hg hnda
    have hAn:=(S1.trans S2).seq hA
    have hKn:=S2 _ _ hb2
    clear S1 S2 hb1 hb2 hnew c1 c2 hkl hA d1 d2 hN1 hg1 f1
    have hbl:bs.length≤10:=by
      have:=congrArg List.length hbs
      rw [List.length_map] at this;omega
    have hrows:=gnet_rows hg
    have hnn:=gnet_nn hg
    refine ⟨_,rfl,p,bs,f,rfl,hN,by omega,fun kp H2 hC=>?_⟩
    obtain ⟨es,S2,hC2,hes,_⟩:=hC
    have hN2:=hN.same S2
    refine ⟨_,rfl,p,bs,f,rfl,hN2.r,by omega,(fun x hx=>by
      rw [hbs] at hx
      refine ⟨hg.nd x hx,?_⟩
      have:=nd_len (hg.nd x hx) (hrows.inn x hx)
      rw [List.length_map] at this
      omega),fun tp H3 hT=>?_⟩
    obtain ⟨ds,S3,hM,hds,_⟩:=hT
    have hN3:=hN2.same S3
    have hC3:=hC2.same S3
    have hA3:=(S2.trans S3).seq hAn
    have hK3:=(S2.trans S3) _ _ hKn
    clear S2 S3 hN hN2 hAn hKn hC2
    refine ⟨_,rfl,(by show 4≤sizeLine;decide),fun l1 hl1=>?_⟩
    have U1:=Same.updN (o:=.lst [V.int 0,V.int 1,V.int 2,V.int 3]) hl1
    refine ⟨a,l1,_,_,rfl,rfl,U1.seq hA3,SqL.of upd_same,(by rw [List.length_map];exact Nat.le_of_lt (szl (by simp only [List.length_cons,List.length_nil];omega))),fun l2 hl2=>?_⟩
    have hcut:∃ ms:List Int,cutV (ns.map V.int ++ [V.int 0,V.int 1,V.int 2,V.int 3]) (some 3) (some 11) = ms.map V.int:=by
      have:ns.map V.int ++ [V.int 0,V.int 1,V.int 2,V.int 3] = (ns ++ [0,1,2,3]).map V.int:=by rw [List.map_append];rfl
      rw [this]
      unfold cutV
      rw [← List.map_drop,← List.map_take]
      exact ⟨_,rfl⟩
    obtain ⟨ms,hms⟩:=hcut
    have U2:=U1.trans (Same.updN (o:=.lst (ns.map V.int ++ [V.int 0,V.int 1,V.int 2,V.int 3])) hl2)
    refine ⟨_,rfl,_,rfl,l2,_,rfl,SqL.of upd_same,fun l3 hl3=>?_⟩
    rw [hms]
    have U3:=U2.trans (Same.updN (o:=.lst (ms.map V.int)) hl3)
    refine ⟨l3,rfl,⟨_,SqL.of upd_same⟩,(let I'1:Nat→L2.St→Hp→Prop:=fun i σ H4=>∃ x5 x6 x7 x8 x9,σ = [some (.ref a),some (.ref b),some (.ref p),some (.ref kp),some (.ref tp),x5,x6,x7,x8,x9]∧Same H3 H4∧H4 l3 = some (.lst (ms.map V.int));for_list (xs:=ms.map V.int) I'1 ⟨_,_,_,_,_,rfl,U3,upd_same⟩ (fun i σ H4 _ pv=>?_) (fun i x σ H4 hx pv=>?_) (fun σ H4 pv=>?_))⟩
    · obtain ⟨_,_,_,_,_,rfl,_,h⟩:=pv
      exact SqL.of h
    · obtain ⟨x5,x6,x7,x8,x9,rfl,S4,hl4⟩:=pv
      rw [List.getElem?_map] at hx
      cases hk:ms[i]? with
      | none=>rw [hk] at hx;cases hx
      | some c =>
      rw [hk] at hx
      cases hx
      clear U1 U2 U3 hl1 hl2 hl3 hms hk
      have hK4:=S4 _ _ hK3
      refine ⟨_,rfl,_,rfl,c,1,rfl,by decide,by decide,fun n1 hn1 _=>?_⟩
      have e1:=Int.emod_nonneg n1 (show (ks.length:Int)≠0 by omega)
      have e2:=Int.emod_lt_of_pos n1 (show (0:Int) < (ks.length:Int) by omega)
      obtain ⟨one,ho1,_,ho3⟩:=atI_ix (g:=V.str) (l:=ks) (i:=n1 % (ks.length:Int)) (by omega) (by omega)
      refine ⟨_,rfl,_,ks.length,rfl,.inl ⟨_,SqL.of hK4,by simp⟩,_,_,rfl,rfl,(by show (0:Int) < (ks.length:Int);omega),b,_,_,_,rfl,rfl,SqL.of hK4,ho3,?_⟩
      clear e1 e2 ho3 hn1
      obtain ⟨os,hos⟩:∃ os,os = ks.filter (fun x=>decide (x≠one)):=⟨_,rfl⟩
      have hol:os.length + 1 = ks.length:=by
        rw [hos];exact filter_ne_len hnd ho1
      refine ⟨_,rfl,b,rfl,⟨_,SqL.of hK4⟩,(let I'2:Nat→List V→Hp→Prop:=fun j ys H5=>H5 = H4∧ys = ((ks.take j).filter fun x=>decide (x≠one)).map V.str;comp_inv ks.length I'2 ⟨rfl,rfl⟩ (fun j ys H5 pv=>?_) (fun j ys H5 hj pv=>?_) (fun ys H5 pv=>?_))⟩
      · obtain ⟨_,rfl⟩:=pv
        rw [List.length_map]
        refine szl ?_
        have:=List.length_filter_le (fun x=>decide (x≠one)) (ks.take j)
        rw [List.length_take] at this
        omega
      · obtain ⟨rfl,rfl⟩:=pv
        obtain ⟨x,hx⟩:∃ x,ks[j]? = some x:=⟨_,List.getElem?_eq_getElem hj⟩
        refine ⟨⟨_,.str x,SqL.of hK4,by rw [List.getElem?_map,hx];rfl⟩,?_⟩
        rintro v H10 ⟨rfl,hv⟩
        have hv:=hv _ (SqL.of hK4)
        rw [List.getElem?_map,hx] at hv
        cases hv
        refine ⟨_,rfl,_,rfl,rfl,_,rfl,iteB (fun hb=>?_) (fun hb=>?_)⟩
        · have hb:x≠one:=by simpa using hb
          refine ⟨_,rfl,nxC hj ⟨rfl,?_⟩⟩
          rw [List.take_add_one,hx,List.filter_append,List.map_append]
          simp [hb]
        · have hb:x = one:=by simpa using hb
          refine nxC hj ⟨rfl,?_⟩
          rw [List.take_add_one,hx,List.filter_append,List.map_append]
          simp [hb]
      · obtain ⟨rfl,rfl⟩:=pv
        rw [List.take_length]
        refine ⟨⟨_,SqL.of hK4,by rw [List.length_map];exact Nat.le_refl _⟩,fun op hop=>?_⟩
        rw [← hos]
        have U5:=Same.updN (o:=.lst (os.map V.str)) hop
        have hO:(upd H5 op (.lst (os.map V.str))) op = some (.lst (os.map V.str)):=upd_same
        have S5:=S4.trans U5
        have hl5:=U5 _ _ hl4
        generalize upd H5 op (.lst (os.map V.str)) = H6 at U5 hO S5 hl5
        clear S4 U5 hl4 hK4 hop
        have hK6:=S5 _ _ hK3
        refine ⟨_,rfl,c,2,rfl,by decide,by decide,fun n2 hn2 _=>?_⟩
        have g1:=Int.emod_nonneg n2 (show ((ks.length:Int) - 1)≠0 by omega)
        have g2:=Int.emod_lt_of_pos n2 (show (0:Int) < ((ks.length:Int) - 1) by omega)
        obtain ⟨other,ht1,_,ht3⟩:=atI_ix (g:=V.str) (l:=os) (i:=n2 % ((ks.length:Int) - 1)) (by omega) (by omega)
        have htk:other∈ks:=by rw [hos] at ht1;exact (List.mem_filter.mp ht1).1
        have hne:one≠other:=by rw [hos] at ht1;have:=(List.mem_filter.mp ht1).2;simp at this;exact fun e=>this e.symm
        refine ⟨_,rfl,_,ks.length,rfl,.inl ⟨_,SqL.of hK6,by simp⟩,_,_,rfl,rfl,_,_,rfl,rfl,(by show (0:Int) < (ks.length:Int) - 1;omega),op,_,_,_,rfl,rfl,SqL.of hO,ht3,?_⟩
        clear hO ht3 g1 g2 hn2
        refine ⟨_,rfl,_,rfl,c,3,rfl,by decide,by decide,fun n3 hn3 _=>?_⟩
        have e1:=Int.emod_nonneg n3 (show (ks.length:Int)≠0 by omega)
        have e2:=Int.emod_lt_of_pos n3 (show (0:Int) < (ks.length:Int) by omega)
        obtain ⟨third,hr1,_,hr3⟩:=atI_ix (g:=V.str) (l:=ks) (i:=n3 % (ks.length:Int)) (by omega) (by omega)
        refine ⟨_,rfl,_,ks.length,rfl,.inl ⟨_,SqL.of hK6,by simp⟩,_,_,rfl,rfl,(by show (0:Int) < (ks.length:Int);omega),b,_,_,_,rfl,rfl,SqL.of hK6,hr3,?_⟩
        clear e1 e2 hr3 hn3
        have hN6:=hN3.same S5
        have hM6:=hM.same S5
        refine ⟨_,rfl,_,rfl,_,rfl,_,rfl,p,tp,bs,ds,f,one,other,_,rfl,hN6,hM6,hds,by rw [hbs];exact hg,hnda,by omega,by rw [hbs];exact ho1,by rw [hbs];exact htk,hne,fun H7 S7=>⟨_,rfl,iteF ?_⟩⟩
        have T7:=S5.trans S7
        have hl7:=S7 _ _ hl5
        clear hN6 hM6 S5 S7 hl5 hK6
        refine ⟨_,rfl,_,rfl,rfl,_,rfl,iteB (fun h1=>?_) (fun _=>⟨_,_,_,_,_,rfl,T7,hl7⟩)⟩
        refine ⟨_,rfl,_,rfl,rfl,_,rfl,iteB (fun h2=>?_) (fun _=>⟨_,_,_,_,_,rfl,T7,hl7⟩)⟩
        have h1:third≠one:=by simpa using h1
        have h2:third≠other:=by simpa using h2
        refine ⟨_,rfl,_,rfl,_,rfl,p,bs,f,one,third,rfl,hN3.same T7,by rw [hbs];exact hrows,by rw [hbs];exact hnn,by omega,by rw [hbs];exact ho1,by rw [hbs];exact hr1,Ne.symm h1,fun H8 am1 R1 S8 _ hL1=>?_⟩
        have T8:=T7.trans S8
        refine ⟨_,rfl,_,rfl,_,rfl,p,bs,f,third,other,rfl,hN3.same T8,by rw [hbs];exact hrows,by rw [hbs];exact hnn,by omega,by rw [hbs];exact hr1,by rw [hbs];exact htk,h2,fun H9 am2 R2 S9 _ hL2=>?_⟩
        have T9:=T8.trans S9
        refine ⟨am1,am2,rfl,?_⟩
        refine ⟨_,rfl,_,rfl,_,rfl,p,bs,f,one,other,rfl,hN3.same T9,by rw [hbs];exact hrows,by rw [hbs];exact hnn,by omega,by rw [hbs];exact ho1,by rw [hbs];exact htk,hne,fun H10 am3 R3 S10 _ hL3=>?_⟩
        have tri:=hL3.tri hL1 hL2
        have T10:=T9.trans S10
        refine ⟨_,rfl,_,_,rfl,rfl,_,rfl,iteD (fun h=>?_) (fun _=>⟨_,_,_,_,_,rfl,T10,(S8.trans (S9.trans S10)) _ _ hl7⟩)⟩
        exfalso
        split at h <;> omega
    · obtain ⟨x5,x6,x7,x8,x9,rfl,S4,_⟩:=pv
      have rA:=(hN3.same S4).r.rep (K:=K)
      have rK:=(hC3.same S4).r.rep (K:=K)
      rw [hbs] at rA
      rw [hes,hbs] at rK
      exact ⟨_,rfl,_,rfl,p,kp,_,_,rfl,rfl,rA,rK,netD_deq (List.Perm.refl _) (fun x hx=>hg.nd x hx) (fun x hx=>hg.nd x hx) (fun _ _ _=>rfl),Nat.le_trans (netD_dep _ _) (by decide),q _⟩
end
end K15
noncomputable def PySem.W.Fast.tw15804146247339135315:PySem.Program:=PySem.Challenge.pw_spareline_k15_whole_between
theorem PySem.W.Fast.te4344144961174789672:True:=trivial
theorem PySem.W.Fast.te15804146247339135315:PySem.Challenge.pw_spareline_k15_whole_between = PySem.W.Fast.tw15804146247339135315:=rfl
open PySem PySem.W PyProof.Rows
set_option maxRecDepth 100000 in
set_option maxHeartbeats 0 in
theorem PySem.Challenge.cw_spareline_k15_whole_between_holds : PySem.Challenge.rw_spareline_k15_whole_between.Holds := by
  w_on;o_law;k_head;(case hw=>w_witness2)
  k_fill
  refine L2.walk_ofK (l:=PySem.Challenge.rw_spareline_k15_whole_between) (n:=63) (k:=7) (x:="_law_script") (CX:=L2.CX0) (sp:=K15.sp_law) rfl (by decide) rfl ⟨rfl,by decide,by decide⟩ (fun w h Y=>PySem.W.kIn_of Y) ?F ?S ?C
  case F =>
    intro w mg fa h KX G hmg
    have h_least_side:∃ (f:Addr) (fd:FuncData),L2.Top (L2.KOf KX) mg "least_side" K15.s_least_side ["arcs","ones","others"] f fd:=by
      dsimp only [L2.KOf]
      refine' ⟨_,_,L2.top_mk (st:=K15.s_least_side) KX G ?a ?l ?c ?k (fun _ _ _ _ _ _=>L2.all3 (fun _ _ _=>rfl))⟩
      (case a=>k_is);(case l=>k_is);(case c=>k_is);(case k=>k_is)
    have h_pushed_through:∃ (f:Addr) (fd:FuncData),L2.Top (L2.KOf KX) mg "pushed_through" K15.s_pushed_through ["arcs","ones","others"] f fd:=by
      dsimp only [L2.KOf]
      refine' ⟨_,_,L2.top_mk (st:=K15.s_pushed_through) KX G ?a ?l ?c ?k (fun _ _ _ _ _ _=>L2.all3 (fun _ _ _=>rfl))⟩
      (case a=>k_is);(case l=>k_is);(case c=>k_is);(case k=>k_is)
    have h_room_on:∃ (f:Addr) (fd:FuncData),L2.Top (L2.KOf KX) mg "room_on" K15.s_room_on ["arcs"] f fd:=by
      dsimp only [L2.KOf]
      refine' ⟨_,_,L2.top_mk (st:=K15.s_room_on) KX G ?a ?l ?c ?k (fun _ _ _ _ _ _=>L2.all1 (fun _=>rfl))⟩
      (case a=>k_is);(case l=>k_is);(case c=>k_is);(case k=>k_is)
    have h_least_along:∃ (f:Addr) (fd:FuncData),L2.Top (L2.KOf KX) mg "least_along" K15.s_least_along ["arcs","way"] f fd:=by
      dsimp only [L2.KOf]
      refine' ⟨_,_,L2.top_mk (st:=K15.s_least_along) KX G ?a ?l ?c ?k (fun _ _ _ _ _ _=>L2.all2 (fun _ _=>rfl))⟩
      (case a=>k_is);(case l=>k_is);(case c=>k_is);(case k=>k_is)
    have h_shortest_way:∃ (f:Addr) (fd:FuncData),L2.Top (L2.KOf KX) mg "shortest_way" K15.s_shortest_way ["arcs","ones","others"] f fd:=by
      dsimp only [L2.KOf]
      refine' ⟨_,_,L2.top_mk (st:=K15.s_shortest_way) KX G ?a ?l ?c ?k (fun _ _ _ _ _ _=>L2.all3 (fun _ _ _=>rfl))⟩
      (case a=>k_is);(case l=>k_is);(case c=>k_is);(case k=>k_is)
    have h_reached_from:∃ (f:Addr) (fd:FuncData),L2.Top (L2.KOf KX) mg "reached_from" K15.s_reached_from ["arcs","ones"] f fd:=by
      dsimp only [L2.KOf]
      refine' ⟨_,_,L2.top_mk (st:=K15.s_reached_from) KX G ?a ?l ?c ?k (fun _ _ _ _ _ _=>L2.all2 (fun _ _=>rfl))⟩
      (case a=>k_is);(case l=>k_is);(case c=>k_is);(case k=>k_is)
    have h_lines_in:∃ (f:Addr) (fd:FuncData),L2.Top (L2.KOf KX) mg "lines_in" K15.s_lines_in ["net"] f fd:=by
      dsimp only [L2.KOf]
      refine' ⟨_,_,L2.top_mk (st:=K15.s_lines_in) KX G ?a ?l ?c ?k (fun _ _ _ _ _ _=>L2.all1 (fun _=>rfl))⟩
      (case a=>k_is);(case l=>k_is);(case c=>k_is);(case k=>k_is)
    have h_crossing_of:∃ (f:Addr) (fd:FuncData),L2.Top (L2.KOf KX) mg "crossing_of" K15.s_crossing_of ["net","side"] f fd:=by
      dsimp only [L2.KOf]
      refine' ⟨_,_,L2.top_mk (st:=K15.s_crossing_of) KX G ?a ?l ?c ?k (fun _ _ _ _ _ _=>L2.all2 (fun _ _=>rfl))⟩
      (case a=>k_is);(case l=>k_is);(case c=>k_is);(case k=>k_is)
    have h_check_two:∃ (f:Addr) (fd:FuncData),L2.Top (L2.KOf KX) mg "check_two" K15.s_check_two ["net","one","other"] f fd:=by
      dsimp only [L2.KOf]
      refine' ⟨_,_,L2.top_mk (st:=K15.s_check_two) KX G ?a ?l ?c ?k (fun _ _ _ _ _ _=>L2.all3 (fun _ _ _=>rfl))⟩
      (case a=>k_is);(case l=>k_is);(case c=>k_is);(case k=>k_is)
    have h_has_place:∃ (f:Addr) (fd:FuncData),L2.Top (L2.KOf KX) mg "has_place" K15.s_has_place ["net","thing"] f fd:=by
      dsimp only [L2.KOf]
      refine' ⟨_,_,L2.top_mk (st:=K15.s_has_place) KX G ?a ?l ?c ?k (fun _ _ _ _ _ _=>L2.all2 (fun _ _=>rfl))⟩
      (case a=>k_is);(case l=>k_is);(case c=>k_is);(case k=>k_is)
    have h_has_line:∃ (f:Addr) (fd:FuncData),L2.Top (L2.KOf KX) mg "has_line" K15.s_has_line ["net","one","other"] f fd:=by
      dsimp only [L2.KOf]
      refine' ⟨_,_,L2.top_mk (st:=K15.s_has_line) KX G ?a ?l ?c ?k (fun _ _ _ _ _ _=>L2.all3 (fun _ _ _=>rfl))⟩
      (case a=>k_is);(case l=>k_is);(case c=>k_is);(case k=>k_is)
    have h_line_of:∃ (f:Addr) (fd:FuncData),L2.Top (L2.KOf KX) mg "line_of" K15.s_line_of ["one","other"] f fd:=by
      dsimp only [L2.KOf]
      refine' ⟨_,_,L2.top_mk (st:=K15.s_line_of) KX G ?a ?l ?c ?k (fun _ _ _ _ _ _=>L2.all2 (fun _ _=>rfl))⟩
      (case a=>k_is);(case l=>k_is);(case c=>k_is);(case k=>k_is)
    have h_most_between:∃ (f:Addr) (fd:FuncData),L2.Top (L2.KOf KX) mg "most_between" K15.s_most_between ["net","one","other"] f fd:=by
      dsimp only [L2.KOf]
      refine' ⟨_,_,L2.top_mk (st:=K15.s_most_between) KX G ?a ?l ?c ?k (fun _ _ _ _ _ _=>L2.all3 (fun _ _ _=>rfl))⟩
      (case a=>k_is);(case l=>k_is);(case c=>k_is);(case k=>k_is)
    have h_routes_between:∃ (f:Addr) (fd:FuncData),L2.Top (L2.KOf KX) mg "routes_between" K15.s_routes_between ["net","one","other"] f fd:=by
      dsimp only [L2.KOf]
      refine' ⟨_,_,L2.top_mk (st:=K15.s_routes_between) KX G ?a ?l ?c ?k (fun _ _ _ _ _ _=>L2.all3 (fun _ _ _=>rfl))⟩
      (case a=>k_is);(case l=>k_is);(case c=>k_is);(case k=>k_is)
    have h_side_between:∃ (f:Addr) (fd:FuncData),L2.Top (L2.KOf KX) mg "side_between" K15.s_side_between ["net","one","other"] f fd:=by
      dsimp only [L2.KOf]
      refine' ⟨_,_,L2.top_mk (st:=K15.s_side_between) KX G ?a ?l ?c ?k (fun _ _ _ _ _ _=>L2.all3 (fun _ _ _=>rfl))⟩
      (case a=>k_is);(case l=>k_is);(case c=>k_is);(case k=>k_is)
    have h_is_shown:∃ (f:Addr) (fd:FuncData),L2.Top (L2.KOf KX) mg "is_shown" K15.s_is_shown ["net","one","other","routes","side"] f fd:=by
      dsimp only [L2.KOf]
      refine' ⟨_,_,L2.top_mk (st:=K15.s_is_shown) KX G ?a ?l ?c ?k (fun _ _ _ _ _ _=>L2.all5 (fun _ _ _ _ _=>rfl))⟩
      (case a=>k_is);(case l=>k_is);(case c=>k_is);(case k=>k_is)
    have h_flow_on:∃ (f:Addr) (fd:FuncData),L2.Top (L2.KOf KX) mg "flow_on" K15.s_flow_on ["net","room"] f fd:=by
      dsimp only [L2.KOf]
      refine' ⟨_,_,L2.top_mk (st:=K15.s_flow_on) KX G ?a ?l ?c ?k (fun _ _ _ _ _ _=>L2.all2 (fun _ _=>rfl))⟩
      (case a=>k_is);(case l=>k_is);(case c=>k_is);(case k=>k_is)
    have h_is_route:∃ (f:Addr) (fd:FuncData),L2.Top (L2.KOf KX) mg "is_route" K15.s_is_route ["net","one","other","many","places"] f fd:=by
      dsimp only [L2.KOf]
      refine' ⟨_,_,L2.top_mk (st:=K15.s_is_route) KX G ?a ?l ?c ?k (fun _ _ _ _ _ _=>L2.all5 (fun _ _ _ _ _=>rfl))⟩
      (case a=>k_is);(case l=>k_is);(case c=>k_is);(case k=>k_is)
    have h_keeps_strengths:∃ (f:Addr) (fd:FuncData),L2.Top (L2.KOf KX) mg "keeps_strengths" K15.s_keeps_strengths ["net","routes"] f fd:=by
      dsimp only [L2.KOf]
      refine' ⟨_,_,L2.top_mk (st:=K15.s_keeps_strengths) KX G ?a ?l ?c ?k (fun _ _ _ _ _ _=>L2.all2 (fun _ _=>rfl))⟩
      (case a=>k_is);(case l=>k_is);(case c=>k_is);(case k=>k_is)
    have h_parts_two:∃ (f:Addr) (fd:FuncData),L2.Top (L2.KOf KX) mg "parts_two" K15.s_parts_two ["net","one","other","side"] f fd:=by
      dsimp only [L2.KOf]
      refine' ⟨_,_,L2.top_mk (st:=K15.s_parts_two) KX G ?a ?l ?c ?k (fun _ _ _ _ _ _=>L2.all4 (fun _ _ _ _=>rfl))⟩
      (case a=>k_is);(case l=>k_is);(case c=>k_is);(case k=>k_is)
    have h_l_cell:∃ (f:Addr) (fd:FuncData),L2.Top (L2.KOf KX) mg "_law_cell" K15.s_l_cell ["_law_script","_law_k"] f fd:=by
      dsimp only [L2.KOf]
      refine' ⟨_,_,L2.top_mk (st:=K15.s_l_cell) KX G ?a ?l ?c ?k (fun _ _ _ _ _ _=>L2.all2 (fun _ _=>rfl))⟩
      (case a=>k_is);(case l=>k_is);(case c=>k_is);(case k=>k_is)
    have h_l_mix:∃ (f:Addr) (fd:FuncData),L2.Top (L2.KOf KX) mg "_law_mix" K15.s_l_mix ["_law_cell_here","_law_k"] f fd:=by
      dsimp only [L2.KOf]
      refine' ⟨_,_,L2.top_mk (st:=K15.s_l_mix) KX G ?a ?l ?c ?k (fun _ _ _ _ _ _=>L2.all2 (fun _ _=>rfl))⟩
      (case a=>k_is);(case l=>k_is);(case c=>k_is);(case k=>k_is)
    have h_l_names:∃ (f:Addr) (fd:FuncData),L2.Top (L2.KOf KX) mg "_law_names" K15.s_l_names ["_law_cell_here","_law_many"] f fd:=by
      dsimp only [L2.KOf]
      refine' ⟨_,_,L2.top_mk (st:=K15.s_l_names) KX G ?a ?l ?c ?k (fun _ _ _ _ _ _=>L2.all2 (fun _ _=>rfl))⟩
      (case a=>k_is);(case l=>k_is);(case c=>k_is);(case k=>k_is)
    have h_l_net:∃ (f:Addr) (fd:FuncData),L2.Top (L2.KOf KX) mg "_law_net" K15.s_l_net ["_law_names_here","_law_cell_here","_law_more"] f fd:=by
      dsimp only [L2.KOf]
      refine' ⟨_,_,L2.top_mk (st:=K15.s_l_net) KX G ?a ?l ?c ?k (fun _ _ _ _ _ _=>L2.all3 (fun _ _ _=>rfl))⟩
      (case a=>k_is);(case l=>k_is);(case c=>k_is);(case k=>k_is)
    have h_l_crossing:∃ (f:Addr) (fd:FuncData),L2.Top (L2.KOf KX) mg "_law_crossing" K15.s_l_crossing ["_law_net_here","_law_side"] f fd:=by
      dsimp only [L2.KOf]
      refine' ⟨_,_,L2.top_mk (st:=K15.s_l_crossing) KX G ?a ?l ?c ?k (fun _ _ _ _ _ _=>L2.all2 (fun _ _=>rfl))⟩
      (case a=>k_is);(case l=>k_is);(case c=>k_is);(case k=>k_is)
    have h_l_is_side:∃ (f:Addr) (fd:FuncData),L2.Top (L2.KOf KX) mg "_law_is_side" K15.s_l_is_side ["_law_net_here","_law_one","_law_other","_law_side"] f fd:=by
      dsimp only [L2.KOf]
      refine' ⟨_,_,L2.top_mk (st:=K15.s_l_is_side) KX G ?a ?l ?c ?k (fun _ _ _ _ _ _=>L2.all4 (fun _ _ _ _=>rfl))⟩
      (case a=>k_is);(case l=>k_is);(case c=>k_is);(case k=>k_is)
    have h_l_is_route:∃ (f:Addr) (fd:FuncData),L2.Top (L2.KOf KX) mg "_law_is_route" K15.s_l_is_route ["_law_net_here","_law_one","_law_other","_law_places"] f fd:=by
      dsimp only [L2.KOf]
      refine' ⟨_,_,L2.top_mk (st:=K15.s_l_is_route) KX G ?a ?l ?c ?k (fun _ _ _ _ _ _=>L2.all4 (fun _ _ _ _=>rfl))⟩
      (case a=>k_is);(case l=>k_is);(case c=>k_is);(case k=>k_is)
    have h_l_come_to:∃ (f:Addr) (fd:FuncData),L2.Top (L2.KOf KX) mg "_law_come_to" K15.s_l_come_to ["_law_net_here","_law_one","_law_other","_law_routes"] f fd:=by
      dsimp only [L2.KOf]
      refine' ⟨_,_,L2.top_mk (st:=K15.s_l_come_to) KX G ?a ?l ?c ?k (fun _ _ _ _ _ _=>L2.all4 (fun _ _ _ _=>rfl))⟩
      (case a=>k_is);(case l=>k_is);(case c=>k_is);(case k=>k_is)
    have h_l_copy:∃ (f:Addr) (fd:FuncData),L2.Top (L2.KOf KX) mg "_law_copy" K15.s_l_copy ["_law_net_here"] f fd:=by
      dsimp only [L2.KOf]
      refine' ⟨_,_,L2.top_mk (st:=K15.s_l_copy) KX G ?a ?l ?c ?k (fun _ _ _ _ _ _=>L2.all1 (fun _=>rfl))⟩
      (case a=>k_is);(case l=>k_is);(case c=>k_is);(case k=>k_is)
    have h_l_turned:∃ (f:Addr) (fd:FuncData),L2.Top (L2.KOf KX) mg "_law_turned" K15.s_l_turned ["_law_net_here"] f fd:=by
      dsimp only [L2.KOf]
      refine' ⟨_,_,L2.top_mk (st:=K15.s_l_turned) KX G ?a ?l ?c ?k (fun _ _ _ _ _ _=>L2.all1 (fun _=>rfl))⟩
      (case a=>k_is);(case l=>k_is);(case c=>k_is);(case k=>k_is)
    have h_l_least:∃ (f:Addr) (fd:FuncData),L2.Top (L2.KOf KX) mg "_law_least" K15.s_l_least ["_law_net_here","_law_one","_law_side"] f fd:=by
      dsimp only [L2.KOf]
      refine' ⟨_,_,L2.top_mk (st:=K15.s_l_least) KX G ?a ?l ?c ?k (fun _ _ _ _ _ _=>L2.all3 (fun _ _ _=>rfl))⟩
      (case a=>k_is);(case l=>k_is);(case c=>k_is);(case k=>k_is)
    have h_l_both:∃ (f:Addr) (fd:FuncData),L2.Top (L2.KOf KX) mg "_law_both" K15.s_l_both ["_law_net_here","_law_other_net","_law_one","_law_other"] f fd:=by
      dsimp only [L2.KOf]
      refine' ⟨_,_,L2.top_mk (st:=K15.s_l_both) KX G ?a ?l ?c ?k (fun _ _ _ _ _ _=>L2.all4 (fun _ _ _ _=>rfl))⟩
      (case a=>k_is);(case l=>k_is);(case c=>k_is);(case k=>k_is)
    have h_law:∃ (f:Addr) (fd:FuncData),L2.Top (L2.KOf KX) mg "law" K15.s_law ["_law_script"] f fd∧∀ (s:Shared) (u:Value),BindsTo s fd ⟨[u],[]⟩ [("_law_script",u)]:=by
      dsimp only [L2.KOf]
      refine' ⟨_,_,L2.top_mk (st:=K15.s_law) KX G ?a ?l ?c ?k (fun _ _ _ _ _ _=>L2.all1 (fun _=>rfl)),fun s u=>.of_eq rfl⟩
      (case a=>k_is);(case l=>k_is);(case c=>k_is);(case k=>k_is)
    have b_all:PySem.W.nsIn (L2.KOf KX) mainGlobals "all" = some none:=by
      dsimp only [L2.KOf]
      k_is
    have b_dict:PySem.W.nsIn (L2.KOf KX) mainGlobals "dict" = some none:=by
      dsimp only [L2.KOf]
      k_is
    have b_isinstance:PySem.W.nsIn (L2.KOf KX) mainGlobals "isinstance" = some none:=by
      dsimp only [L2.KOf]
      k_is
    have b_len:PySem.W.nsIn (L2.KOf KX) mainGlobals "len" = some none:=by
      dsimp only [L2.KOf]
      k_is
    have b_list:PySem.W.nsIn (L2.KOf KX) mainGlobals "list" = some none:=by
      dsimp only [L2.KOf]
      k_is
    have b_max:PySem.W.nsIn (L2.KOf KX) mainGlobals "max" = some none:=by
      dsimp only [L2.KOf]
      k_is
    have b_min:PySem.W.nsIn (L2.KOf KX) mainGlobals "min" = some none:=by
      dsimp only [L2.KOf]
      k_is
    have b_range:PySem.W.nsIn (L2.KOf KX) mainGlobals "range" = some none:=by
      dsimp only [L2.KOf]
      k_is
    have b_reversed:PySem.W.nsIn (L2.KOf KX) mainGlobals "reversed" = some none:=by
      dsimp only [L2.KOf]
      k_is
    have b_set:PySem.W.nsIn (L2.KOf KX) mainGlobals "set" = some none:=by
      dsimp only [L2.KOf]
      k_is
    have b_sorted:PySem.W.nsIn (L2.KOf KX) mainGlobals "sorted" = some none:=by
      dsimp only [L2.KOf]
      k_is
    have b_str:PySem.W.nsIn (L2.KOf KX) mainGlobals "str" = some none:=by
      dsimp only [L2.KOf]
      k_is
    have b_sum:PySem.W.nsIn (L2.KOf KX) mainGlobals "sum" = some none:=by
      dsimp only [L2.KOf]
      k_is
    have b_zip:PySem.W.nsIn (L2.KOf KX) mainGlobals "zip" = some none:=by
      dsimp only [L2.KOf]
      k_is
    obtain ⟨a_least_side,d_least_side,h_least_side⟩:=h_least_side
    obtain ⟨a_pushed_through,d_pushed_through,h_pushed_through⟩:=h_pushed_through
    obtain ⟨a_room_on,d_room_on,h_room_on⟩:=h_room_on
    obtain ⟨a_least_along,d_least_along,h_least_along⟩:=h_least_along
    obtain ⟨a_shortest_way,d_shortest_way,h_shortest_way⟩:=h_shortest_way
    obtain ⟨a_reached_from,d_reached_from,h_reached_from⟩:=h_reached_from
    obtain ⟨a_lines_in,d_lines_in,h_lines_in⟩:=h_lines_in
    obtain ⟨a_crossing_of,d_crossing_of,h_crossing_of⟩:=h_crossing_of
    obtain ⟨a_check_two,d_check_two,h_check_two⟩:=h_check_two
    obtain ⟨a_has_place,d_has_place,h_has_place⟩:=h_has_place
    obtain ⟨a_has_line,d_has_line,h_has_line⟩:=h_has_line
    obtain ⟨a_line_of,d_line_of,h_line_of⟩:=h_line_of
    obtain ⟨a_most_between,d_most_between,h_most_between⟩:=h_most_between
    obtain ⟨a_routes_between,d_routes_between,h_routes_between⟩:=h_routes_between
    obtain ⟨a_side_between,d_side_between,h_side_between⟩:=h_side_between
    obtain ⟨a_is_shown,d_is_shown,h_is_shown⟩:=h_is_shown
    obtain ⟨a_flow_on,d_flow_on,h_flow_on⟩:=h_flow_on
    obtain ⟨a_is_route,d_is_route,h_is_route⟩:=h_is_route
    obtain ⟨a_keeps_strengths,d_keeps_strengths,h_keeps_strengths⟩:=h_keeps_strengths
    obtain ⟨a_parts_two,d_parts_two,h_parts_two⟩:=h_parts_two
    obtain ⟨a_l_cell,d_l_cell,h_l_cell⟩:=h_l_cell
    obtain ⟨a_l_mix,d_l_mix,h_l_mix⟩:=h_l_mix
    obtain ⟨a_l_names,d_l_names,h_l_names⟩:=h_l_names
    obtain ⟨a_l_net,d_l_net,h_l_net⟩:=h_l_net
    obtain ⟨a_l_crossing,d_l_crossing,h_l_crossing⟩:=h_l_crossing
    obtain ⟨a_l_is_side,d_l_is_side,h_l_is_side⟩:=h_l_is_side
    obtain ⟨a_l_is_route,d_l_is_route,h_l_is_route⟩:=h_l_is_route
    obtain ⟨a_l_come_to,d_l_come_to,h_l_come_to⟩:=h_l_come_to
    obtain ⟨a_l_copy,d_l_copy,h_l_copy⟩:=h_l_copy
    obtain ⟨a_l_turned,d_l_turned,h_l_turned⟩:=h_l_turned
    obtain ⟨a_l_least,d_l_least,h_l_least⟩:=h_l_least
    obtain ⟨a_l_both,d_l_both,h_l_both⟩:=h_l_both
    obtain ⟨a_law,d_law,h_law,hlaw⟩:=h_law
    have T:K15.Txt (L2.KOf KX) mg ⟨a_least_side,d_least_side,a_pushed_through,d_pushed_through,a_room_on,d_room_on,a_least_along,d_least_along,a_shortest_way,d_shortest_way,a_reached_from,d_reached_from,a_lines_in,d_lines_in,a_crossing_of,d_crossing_of,a_check_two,d_check_two,a_has_place,d_has_place,a_has_line,d_has_line,a_line_of,d_line_of,a_most_between,d_most_between,a_routes_between,d_routes_between,a_side_between,d_side_between,a_is_shown,d_is_shown,a_flow_on,d_flow_on,a_is_route,d_is_route,a_keeps_strengths,d_keeps_strengths,a_parts_two,d_parts_two,a_l_cell,d_l_cell,a_l_mix,d_l_mix,a_l_names,d_l_names,a_l_net,d_l_net,a_l_crossing,d_l_crossing,a_l_is_side,d_l_is_side,a_l_is_route,d_l_is_route,a_l_come_to,d_l_come_to,a_l_copy,d_l_copy,a_l_turned,d_l_turned,a_l_least,d_l_least,a_l_both,d_l_both,a_law,d_law⟩:=⟨h_least_side,h_pushed_through,h_room_on,h_least_along,h_shortest_way,h_reached_from,h_lines_in,h_crossing_of,h_check_two,h_has_place,h_has_line,h_line_of,h_most_between,h_routes_between,h_side_between,h_is_shown,h_flow_on,h_is_route,h_keeps_strengths,h_parts_two,h_l_cell,h_l_mix,h_l_names,h_l_net,h_l_crossing,h_l_is_side,h_l_is_route,h_l_come_to,h_l_copy,h_l_turned,h_l_least,h_l_both,h_law,PySem.W.mg_none_of KX G b_all,PySem.W.mg_none_of KX G b_dict,PySem.W.mg_none_of KX G b_isinstance,PySem.W.mg_none_of KX G b_len,PySem.W.mg_none_of KX G b_list,PySem.W.mg_none_of KX G b_max,PySem.W.mg_none_of KX G b_min,PySem.W.mg_none_of KX G b_range,PySem.W.mg_none_of KX G b_reversed,PySem.W.mg_none_of KX G b_set,PySem.W.mg_none_of KX G b_sorted,PySem.W.mg_none_of KX G b_str,PySem.W.mg_none_of KX G b_sum,PySem.W.mg_none_of KX G b_zip⟩
    have e0:=hmg.symm.trans T.f_law.mg
    cases e0
    exact ⟨_,hlaw,fun base kb nb=>K15.ok_law T⟩
  case S =>
    intro K H a ns hl hO hS
    exact ⟨a,ns,rfl,hl,hS,fun _=>rfl⟩
  case C=>exact fun H s e s' h=>h
