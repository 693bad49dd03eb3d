import PyProof.Rows.All
import Wide.All
import OpenK.AllK
import Wide.FinOn
import Lean
import PyProof.EqAt
import PyProof.EqKinds
import PyProof.TupleCall
import PyProof.SetKind
import PyProof.SetNew
import PyProof.SetRoads
import PyProof.Walks
import PyProof.Rows.SetListFold
import PyProof.Seq
import PyProof.Rows.SortShell
import PyProof.TupleIter
import PyProof.CollectWalk
import PyProof.ReprRoads
import PyProof.EqLayable
import PyProof.ReprLen
import PyProof.WalkInts
import PyProof.SeqI3
import PyProof.ListMulRoad
import PyProof.ZipIter
import PyProof.EnumFor
import PyProof.EnumMake
import PyProof.Draws
import PyProof.Rows.ZipGen
import PyProof.LayNew
import PyProof.WalksMore
import PyProof.IsiTupleAll
import PySem.Challenge.RW_boxcover_k23_the_most_often_held
section
set_option Elab.async false
set_option linter.all false
set_option maxRecDepth 100000
namespace L2
open PySem PySem.Spec PyProof.Rows

abbrev Key := Sum Int Str
def JBf : Key → Value → Bool
  | .inl k,v => Value.isInt k v
  | .inr x,v => Value.isStrOf x v
def keyH (w : World) : Key → Int
  | .inl k => hashInt k
  | .inr x => hashStr w x
theorem Jc4 : ∀ {k : Key} {v : Value},JBf k v = true → (∃ i t,k = Sum.inl i ∧ v = Value.int i t) ∨ (∃ x t,k = Sum.inr x ∧ v = Value.str x t)
  | .inl i,v,h => by
    obtain ⟨t,e⟩ := Value.isInt_shape (k := i) (v := v) h
    exact .inl ⟨i,t,rfl,e⟩
  | .inr x,v,h => by
    obtain ⟨t,e⟩ := Value.isStrOf_shape (x := x) (v := v) h
    exact .inr ⟨x,t,rfl,e⟩
theorem JBe (a b : Int) : decide ((Sum.inl a : Key) = Sum.inl b) = (a == b) := by
  by_cases e : a = b
  · subst e; simp
  · have h : ¬ (Sum.inl a : Key) = Sum.inl b := fun q => e (Sum.inl.inj q)
    rw [decide_eq_false h]
    exact (beq_eq_false_iff_ne.mpr e).symm
theorem JBb (a b : Str) : decide ((Sum.inr a : Key) = Sum.inr b) = decide (a = b) := by
  by_cases e : a = b
  · subst e; simp
  · have h : ¬ (Sum.inr a : Key) = Sum.inr b := fun q => e (Sum.inr.inj q)
    rw [decide_eq_false h,decide_eq_false e]
theorem JBd (a : Int) (b : Str) : decide ((Sum.inl a : Key) = Sum.inr b) = false := decide_eq_false (fun q => nomatch q)
theorem JBc (a : Str) (b : Int) : decide ((Sum.inr a : Key) = Sum.inl b) = false := decide_eq_false (fun q => nomatch q)

def Jo5 (prog : Program) (w : World) : PySem.KeyKind prog w Key where
  is := JBf
  hash := keyH w
  inj := fun v a b ha hb => by
    rcases Jc4 ha with ⟨i,t,rfl,rfl⟩ | ⟨x,t,rfl,rfl⟩
    · rcases Jc4 hb with ⟨j,u,rfl,e⟩ | ⟨y,u,rfl,e⟩
      · injection e with e1 _; rw [e1]
      · exact nomatch e
    · rcases Jc4 hb with ⟨j,u,rfl,e⟩ | ⟨y,u,rfl,e⟩
      · exact nomatch e
      · injection e with e1 _; rw [e1]
  byValue := fun k v h => by
    rcases Jc4 h with ⟨i,t,rfl,rfl⟩ | ⟨x,t,rfl,rfl⟩ <;> rfl
  pyHash := fun hv h => by
    rcases Jc4 hv with ⟨i,t,rfl,rfl⟩ | ⟨x,t,rfl,rfl⟩
    · exact wpAny_pyHash_int h
    · exact wpAny_pyHash_str h
  eqBool := fun hu hv h => by
    rcases Jc4 hu with ⟨i,t,rfl,rfl⟩ | ⟨x,t,rfl,rfl⟩
    · rcases Jc4 hv with ⟨j,u,rfl,rfl⟩ | ⟨y,u,rfl,rfl⟩
      · rw [JBe] at h; exact wpAny_eqBool_int h
      · rw [JBd] at h; exact SeqAt.EqAt.int_str i t y u _ _ _ _ h
    · rcases Jc4 hv with ⟨j,u,rfl,rfl⟩ | ⟨y,u,rfl,rfl⟩
      · rw [JBc] at h; exact SeqAt.EqAt.str_int x t j u _ _ _ _ h
      · rw [JBb] at h; exact wpAny_eqBool_str h
  «strs» := fun k x t v h => by
    rcases Jc4 h with ⟨i,u,rfl,e⟩ | ⟨y,u,rfl,e⟩
    · exact nomatch e
    · injection e with e1 _
      subst e1
      cases v <;> rfl

end L2

namespace L2
open PySem PySem.Spec PyProof.Rows


inductive V where
  | non | bl (b : Bool) | int (i : Int) | str (x : Str) | byt (b : Array UInt8) | flt (b : UInt64) | ref (a : Addr) | ty (n : String)
  deriving DecidableEq

def RelV : V → Value → Prop
  | .non,u => u = Value.none
  | .bl b,u => u = Value.bool b
  | .int i,u => ∃ t,u = Value.int i t
  | .str x,u => ∃ t,u = Value.str x t
  | .byt b,u => ∃ t,u = Value.bytes b t
  | .flt b,u => ∃ t,u = Value.float b t
  | .ref a,u => u = Value.ref a
  | .ty n,u => u = Value.type n

abbrev Vals : List V → List Value → Prop := Paired RelV
theorem Vals.length {xs : List V} {us : List Value} (r : Vals xs us) : xs.length = us.length := Paired.length r
theorem Vals.get : ∀ {xs : List V} {us : List Value} {i : Nat} {x : V},Vals xs us → xs[i]? = some x → ∃ u,us[i]? = some u ∧ RelV x u
  | _,_,_,_,.nil,e => by simp at e
  | _,_,0,_,.cons r _,e => by simp at e; subst e; exact ⟨_,rfl,r⟩
  | _,_,i + 1,x,.cons _ t,e => by
    obtain ⟨u,h1,h2⟩ := Vals.get (i := i) (x := x) t (by simpa using e)
    exact ⟨u,by simpa using h1,h2⟩
theorem Vals.set {x : V} {u : Value} (r : RelV x u) : ∀ {xs : List V} {us : List Value} (i : Nat),Vals xs us → Vals (xs.set i x) (us.set i u)
  | _,_,_,.nil => .nil
  | _,_,0,.cons _ t => .cons r t
  | _,_,i + 1,.cons q t => .cons q (Vals.set r i t)
theorem Vals.append : ∀ {xs ys : List V} {us ws : List Value},Vals xs us → Vals ys ws → Vals (xs ++ ys) (us ++ ws)
  | _,_,_,_,.nil,s => s
  | _,_,_,_,.cons r t,s => .cons r (Vals.append t s)
theorem Vals.take : ∀ {xs : List V} {us : List Value} (n : Nat),Vals xs us → Vals (xs.take n) (us.take n)
  | _,_,0,_ => .nil
  | _,_,_ + 1,.nil => .nil
  | _,_,n + 1,.cons r t => .cons r (Vals.take n t)
theorem Vals.drop : ∀ {xs : List V} {us : List Value} (n : Nat),Vals xs us → Vals (xs.drop n) (us.drop n)
  | _,_,0,r => r
  | _,_,_ + 1,.nil => .nil
  | _,_,n + 1,.cons _ t => Vals.drop n t
def RelO : Option V → Option Value → Prop
  | some v,some u => RelV v u
  | none,none => True
  | _,_ => False
def KV {κ : Type} : List (κ × V) → List (κ × Value) → Prop := Paired fun (p : κ × V) (q : κ × Value) => p.1 = q.1 ∧ RelV p.2 q.2

def kV : Key → V
  | .inl i => .int i
  | .inr x => .str x


inductive HO where
  /-- a list -/
  | lst (xs : List V)
  /-- a tuple (never changes) -/
  | tup (xs : List V)
  /-- a dict whose keys are ints and texts; one whose keys are tuples of ints and texts (the empty one is both) -/
  | dK (kvs : List (Key × V)) | dT (kvs : List (List Key × V))
  /-- a set of ints: its members, its size -/
  | set (S : Int → Bool) (n : Nat)
  /-- an instance of the class at C, its dict at dx, its attributes -/
  | ins (C dx : Addr) (fs : List (Str × V))
  /-- the dict of the instance at x -/
  | own (x : Addr)
  /-- the dict of an exception -/
  | xd (fs : List (Str × V))
  /-- a bound method, f of x -/
  | met (f x : Addr)
  /-- a range object lo, lo + 1, .. below hi -/
  | rng (lo hi : Int)
  /-- a thing that is known to the object (the script; a dict while a loop walks it): read, never written while it is so -/
  | frz (o : Obj) (u : HO)
  /-- a code object's table -/
  | tbl (ps : Array Value)
  /-- any other thing, by what is true of its one object (a def of one's own: SetO a S n := HO.ext fun h => ..) -/
  | ext (φ : Heap → Prop)

abbrev Hp := Addr → Option HO
def upd (H : Hp) (a : Addr) (o : HO) : Hp := fun b => if b = a then some o else H b
theorem Ja6 {H : Hp} {a : Addr} {o : HO} : upd H a o a = some o := by unfold upd; rw [if_pos rfl]
theorem Ja5 {H : Hp} {a b : Addr} {o : HO} (h : b ≠ a) : upd H a o b = H b := by unfold upd; rw [if_neg h]
theorem Jbz {H : Hp} {a b : Addr} {o : HO} (h : H a = some o) (h' : H b = none) : a ≠ b := by
  intro e; subst e; rw [h] at h'; cases h'

section
variable (P : Program) (w : World)
def Jd1 (H : Hp) (h : Heap) (a : Addr) : HO → Prop
  | .lst xs => xs.length ≤ sizeLine ∧ ∃ (its : List Value) (n : Nat),Vals xs its ∧ h.get? a = some { cls := .type "list",data := .seq its.toArray n }
  | .tup xs => xs.length ≤ sizeLine ∧ ∃ its : List Value,Vals xs its ∧ IsTup h a its.toArray
  | .dK kvs => kvs.length ≤ sizeLine ∧ (a == sysModules) = false ∧ ∃ vs,KV kvs vs ∧ h.DictOf (Jo5 P w) a vs
  | .dT kvs => kvs.length ≤ sizeLine ∧ (a == sysModules) = false ∧ ∃ xs : List (List Key × Addr × Value),
      Paired (fun (p : List Key × V) (q : List Key × Addr × Value) => p.1 = q.1 ∧ H q.2.1 = some (.tup (p.1.map kV)) ∧ RelV p.2 q.2.2) kvs xs ∧
      ∃ o es ep,h.get? a = some o ∧ o.ExactDict ∧ o.data = .dict es ep ∧ es.toList = xs.map (entryOfKey (tupleKind (Jo5 P w))) ∧ (xs.map (·.1)).Nodup
  | .set S n => h.SetOf (intKind P w) a S n
  | .ins C dx fs => H dx = some (.own a) ∧ fs.length ≤ 1000 ∧ dx ≠ a ∧ h.get? a = some (PySem.W.instObj C dx) ∧
      ∃ mA,h.Ns1 dx mA ∧ (∀ f,RelO (fs.lookup f) (mA f)) ∧ PySem.Within mA (fs.map (·.1))
  | .own _ => ∃ o,h.get? a = some o
  | .xd fs => ∃ mA,h.Ns1 a mA ∧ ∀ f,RelO (fs.lookup f) (mA f)
  | .rng lo hi => ∃ t u v,h.get? a = some { cls := .type "range",data := .fields #[.int lo t,.int hi u,.int 1 v] }
  | .frz o u => h.get? a = some o ∧ Jd1 H h a u
  | .tbl ps => h.get? a = some { cls := .none,data := .fields ps }
  | .met f x => h.get? a = some (PySem.W.methodObj (.ref f) (.ref x))
  | .ext φ => φ h ∧ (∃ o,h.get? a = some o) ∧ ∀ h1 h2 : Heap,φ h1 → (∀ o,h1.get? a = some o → h2.get? a = some o) → φ h2
def HOk (H : Hp) (h : Heap) : Prop := ∀ a o,H a = some o → Jd1 P w H h a o
end

section
variable {P : Program} {w : World} {H H' : Hp} {h h' : Heap} {a : Addr} {o : HO}
theorem Jd1.lt (x : Jd1 P w H h a o) : a < h.objs.size := by
  cases o with
  | lst xs => obtain ⟨_,_,_,_,e⟩ := x; exact Heap.lt_size e
  | tup xs => obtain ⟨_,_,_,p⟩ := x; exact p.lt
  | dK kvs => obtain ⟨_,_,_,_,o,_,_,e,_⟩ := x; exact Heap.lt_size e
  | dT kvs => obtain ⟨_,_,_,_,o,_,_,e,_⟩ := x; exact Heap.lt_size e
  | set S n => obtain ⟨o,_,_,_,e,_⟩ := x; exact Heap.lt_size e
  | ins C dx fs => obtain ⟨_,_,_,e,_⟩ := x; exact Heap.lt_size e
  | own y => obtain ⟨_,e⟩ := x; exact Heap.lt_size e
  | xd fs => obtain ⟨_,⟨_,_,_,e,_⟩,_⟩ := x; exact Heap.lt_size e
  | rng lo hi => obtain ⟨_,_,_,e⟩ := x; exact Heap.lt_size e
  | frz ob u => obtain ⟨e,_⟩ := x; exact Heap.lt_size e
  | tbl ps => exact Heap.lt_size (show h.get? a = some _ from x)
  | met f y => exact Heap.lt_size (show h.get? a = some _ from x)
  | ext φ => obtain ⟨_,⟨_,e⟩,_⟩ := x; exact Heap.lt_size e
theorem Paired.mapP {α β : Type} {F G : α → β → Prop} : ∀ {l₁ : List α} {l₂ : List β},Paired F l₁ l₂ → (∀ a b,F a b → G a b) → Paired G l₁ l₂
  | _,_,.nil,_ => .nil
  | _,_,.cons r t,f => .cons (f _ _ r) (Paired.mapP t f)
theorem Jd1.stay (x : Jd1 P w H h a o) (k : ∀ b u,(b = a ∨ H b = some (.own a)) → h.get? b = some u → h'.get? b = some u)
    (ho : ∀ b,H b = some (.own a) → H' b = some (.own a)) (ht : ∀ b xs,H b = some (.tup xs) → H' b = some (.tup xs)) : Jd1 P w H' h' a o := by
  induction o with
  | lst xs => obtain ⟨z,its,n,r,e⟩ := x; exact ⟨z,its,n,r,k _ _ (.inl rfl) e⟩
  | tup xs => obtain ⟨z,its,r,ob,e,c⟩ := x; exact ⟨z,its,r,ob,k _ _ (.inl rfl) e,c⟩
  | dK kvs => obtain ⟨z,y,vs,r,ob,es,ep,e,c⟩ := x; exact ⟨z,y,vs,r,ob,es,ep,k _ _ (.inl rfl) e,c⟩
  | dT kvs =>
    obtain ⟨z,y,xs,r,ob,es,ep,e,c⟩ := x
    exact ⟨z,y,xs,Paired.mapP r fun p q z => ⟨z.1,ht _ _ z.2.1,z.2.2⟩,ob,es,ep,k _ _ (.inl rfl) e,c⟩
  | set S n => obtain ⟨ob,es,ep,t,e,c⟩ := x; exact ⟨ob,es,ep,t,k _ _ (.inl rfl) e,c⟩
  | ins C dx fs =>
    obtain ⟨d,z,ne,e,mA,⟨od,es,ep,e2,c⟩,r⟩ := x
    exact ⟨ho _ d,z,ne,k _ _ (.inl rfl) e,mA,⟨od,es,ep,k _ _ (.inr d) e2,c⟩,r⟩
  | own y => obtain ⟨ob,e⟩ := x; exact ⟨ob,k _ _ (.inl rfl) e⟩
  | xd fs => obtain ⟨mA,⟨od,es,ep,e,c⟩,r⟩ := x; exact ⟨mA,⟨od,es,ep,k _ _ (.inl rfl) e,c⟩,r⟩
  | rng lo hi => obtain ⟨t,u,v,e⟩ := x; exact ⟨t,u,v,k _ _ (.inl rfl) e⟩
  | frz ob u ih => obtain ⟨e,q⟩ := x; exact ⟨k _ _ (.inl rfl) e,ih q⟩
  | tbl ps =>
    have e : h.get? a = some { cls := .none,data := .fields ps } := x
    show h'.get? a = some { cls := .none,data := .fields ps }
    exact k a _ (.inl rfl) e
  | met f y =>
    have e : h.get? a = some (PySem.W.methodObj (.ref f) (.ref y)) := x
    show h'.get? a = some (PySem.W.methodObj (.ref f) (.ref y))
    exact k a _ (.inl rfl) e
  | ext φ => obtain ⟨p,⟨o,e⟩,st⟩ := x; exact ⟨st _ _ p fun o q => k _ _ (.inl rfl) q,⟨o,k _ _ (.inl rfl) e⟩,st⟩
theorem HOk.lt (x : HOk P w H h) (e : H a = some o) : a < h.objs.size := (x a o e).lt
theorem HOk.fresh (x : HOk P w H h) (e : h.objs.size ≤ a) : H a = none := by
  cases q : H a with
  | none => rfl
  | some u => exact absurd (Nat.lt_of_lt_of_le (x.lt q) e) (Nat.lt_irrefl _)
theorem HOk.kept (x : HOk P w H h) (k : ∀ b u,h.get? b = some u → h'.get? b = some u) : HOk P w H h' := fun a o e =>
  (x a o e).stay (fun b u _ q => k b u q) (fun _ q => q) fun _ _ q => q
theorem HOk.laid (x : HOk P w H h) (k : ∀ b u,h.get? b = some u → h'.get? b = some u) (hp : h.objs.size ≤ a) (new : Jd1 P w (upd H a o) h' a o) : HOk P w (upd H a o) h' := fun b u e => by
  have hn := x.fresh hp
  by_cases hb : b = a
  · subst hb; rw [Ja6] at e; cases e; exact new
  · rw [Ja5 hb] at e
    exact (x b u e).stay (fun c v _ q => k c v q) (fun c q => by rw [Ja5 (Jbz q hn)]; exact q) fun c xs q => by rw [Ja5 (Jbz q hn)]; exact q
end

def Rd (H : Hp) (a : Addr) (u : HO) : Prop := H a = some u ∨ ∃ o,H a = some (.frz o u)
theorem Rd.of {H : Hp} {a : Addr} {u : HO} (h : H a = some u) : Rd H a u := .inl h
theorem Rd.ok {P : Program} {w : World} {H : Hp} {h : Heap} {a : Addr} {u : HO} (r : Rd H a u) (x : HOk P w H h) : Jd1 P w H h a u := by
  rcases r with r | ⟨o,r⟩
  · exact x a u r
  · obtain ⟨_,q⟩ := x a _ r
    exact q
def Mut : Option HO → Prop
  | some (.lst _) => True
  | some (.dK _) => True
  | some (.dT _) => True
  | some (.set _ _) => True
  | some (.ins _ _ _) => True
  | some (.ext _) => True
  | _ => False
section
variable {P : Program} {w : World} {H : Hp} {h h' : Heap} {x e : Addr} {o' : HO}
theorem HOk.write (ok : HOk P w H h) (mu : Mut (H x)) (he : e = x ∨ H e = some (.own x)) (k : ∀ b u,b ≠ e → h.get? b = some u → h'.get? b = some u) (heo : ∃ u,h'.get? e = some u)
    (new : Jd1 P w (upd H x o') h' x o') : HOk P w (upd H x o') h' := fun b u q => by
  have nown : ∀ c y,H c = some (.own y) → c ≠ x := fun c y r z => by subst z; rw [r] at mu; exact mu
  have ntup : ∀ c xs,H c = some (.tup xs) → c ≠ x := fun c xs r z => by subst z; rw [r] at mu; exact mu
  by_cases hb : b = x
  · subst hb; rw [Ja6] at q; cases q; exact new
  · rw [Ja5 hb] at q
    by_cases hbe : b = e
    · have q' : H b = some (.own x) := by
        rcases he with z | z
        · exact absurd (hbe.trans z) hb
        · rw [hbe]; exact z
      rw [q] at q'; cases q'
      obtain ⟨v,hv⟩ := heo
      exact ⟨v,by rw [hbe]; exact hv⟩
    · refine (ok b u q).stay (fun c v hc r => k c v ?_ r) (fun c r => by rw [Ja5 (nown c b r)]; exact r) fun c xs r => by rw [Ja5 (ntup c xs r)]; exact r
      rcases hc with rfl | hc
      · exact hbe
      · rintro rfl
        rcases he with z | z
        · exact nown c b hc z
        · rw [hc] at z; cases z; exact hb rfl
end

structure Un (fs ex : List Addr) (H H' : Hp) (h h' : Heap) : Prop where
  keep : ∀ b o,h.get? b = some o → H b = none → b ∉ fs → b ∉ ex → h'.get? b = some o
  slot : ∀ b o,h.get? b = some o → H b = none → b ∈ fs → b ∉ ex → ∃ sl,h'.get? b = some { o with slots := sl }
  free : ∀ b o,h.get? b = some o → H b = none → b ∉ ex → H' b = none
  there : ∀ b o,h.get? b = some o → b ∉ ex → ∃ o',h'.get? b = some o'
  tups : ∀ b xs,H b = some (.tup xs) → H' b = some (.tup xs)
  frzs : ∀ b o u,H b = some (.frz o u) → H' b = some (.frz o u)
  tbls : ∀ b ps,H b = some (.tbl ps) → ∃ more,H' b = some (.tbl (ps ++ more))
  sy : H sysModules = none → H' sysModules = none
section
variable {fs fs' ex ex' : List Addr} {H H1 H2 : Hp} {h h1 h2 h' : Heap} {a x e : Addr} {o : HO}
theorem Un.any (u : Un fs ex H H1 h h1) {b : Addr} {ob : Obj} (q : h.get? b = some ob) (n : H b = none) (hx : b ∉ ex) : ∃ sl,h1.get? b = some { ob with slots := sl } := by
  by_cases hb : b ∈ fs
  · exact u.slot b ob q n hb hx
  · exact ⟨ob.slots,u.keep b ob q n hb hx⟩
theorem Un.trans (a : Un fs ex H H1 h h1) (b : Un fs ex H1 H2 h1 h2) : Un fs ex H H2 h h2 where
  keep := fun c ob q n hc hx => b.keep c ob (a.keep c ob q n hc hx) (a.free c ob q n hx) hc hx
  slot := fun c ob q n hc hx => by
    obtain ⟨sl,e1⟩ := a.slot c ob q n hc hx
    obtain ⟨sl',e2⟩ := b.slot c _ e1 (a.free c ob q n hx) hc hx
    exact ⟨sl',e2⟩
  free := fun c ob q n hx => by
    obtain ⟨o',e1⟩ := a.there c ob q hx
    exact b.free c o' e1 (a.free c ob q n hx) hx
  there := fun c ob q hx => by
    obtain ⟨o',e1⟩ := a.there c ob q hx
    exact b.there c o' e1 hx
  tups := fun c xs q => b.tups c xs (a.tups c xs q)
  frzs := fun c ob xs q => b.frzs c ob xs (a.frzs c ob xs q)
  tbls := fun c ps q => by
    obtain ⟨m1,e1⟩ := a.tbls c ps q
    obtain ⟨m2,e2⟩ := b.tbls c _ e1
    exact ⟨m1 ++ m2,by rw [e2,Array.append_assoc]⟩
  sy := fun n => b.sy (a.sy n)
theorem Un.kept (k : ∀ b u,h.get? b = some u → h'.get? b = some u) : Un fs ex H H h h' :=
  ⟨fun b ob q _ _ _ => k b ob q,fun b ob q _ _ _ => ⟨ob.slots,k b ob q⟩,fun _ _ _ n _ => n,fun b ob q _ => ⟨ob,k b ob q⟩,fun _ _ q => q,fun _ _ _ q => q,fun _ ps q => ⟨#[],by rw [q]; simp⟩,id⟩
theorem Un.refl : Un fs ex H H h h := Un.kept fun _ _ q => q
theorem Un.laid (k : ∀ b u,h.get? b = some u → h'.get? b = some u) (hp : h.objs.size ≤ a) (hn : H a = none) (hsy : sysModules ≠ a) : Un fs ex H (upd H a o) h h' where
  sy := fun n => by rw [Ja5 hsy]; exact n
  keep := fun b u q _ _ _ => k b u q
  slot := fun b u q _ _ _ => ⟨u.slots,k b u q⟩
  free := fun b u q n _ => by rw [Ja5 (Nat.ne_of_lt (Nat.lt_of_lt_of_le (Heap.lt_size q) hp))]; exact n
  there := fun b u q _ => ⟨u,k b u q⟩
  tups := fun b xs q => by rw [Ja5 (Jbz q hn)]; exact q
  frzs := fun b u xs q => by rw [Ja5 (Jbz q hn)]; exact q
  tbls := fun b ps q => ⟨#[],by rw [Ja5 (Jbz q hn),q]; simp⟩
theorem Un.write (mu : Mut (H x)) (he : e = x ∨ H e = some (.own x)) (k : ∀ b u,b ≠ e → h.get? b = some u → h'.get? b = some u) (heo : ∃ u,h'.get? e = some u) : Un fs ex H (upd H x o) h h' := by
  have hx : ∀ b,H b = none → b ≠ x := fun b n z => by subst z; rw [n] at mu; exact mu
  have hb : ∀ b,H b = none → b ≠ e := fun b n z => by
    subst z
    rcases he with r | r
    · exact hx b n r
    · rw [n] at r; cases r
  have hm : ∀ b u,H b = some u → ¬ Mut (some u) → b ≠ x := fun b u q nm z => by subst z; rw [q] at mu; exact nm mu
  refine ⟨fun b u q n _ _ => k b u (hb b n) q,fun b u q n _ _ => ⟨u.slots,k b u (hb b n) q⟩,fun b u q n _ => by rw [Ja5 (hx b n)]; exact n,fun b u q _ => ?_,
    fun b xs q => by rw [Ja5 (hm b _ q fun z => z)]; exact q,fun b u xs q => by rw [Ja5 (hm b _ q fun z => z)]; exact q,fun b ps q => ⟨#[],by rw [Ja5 (hm b _ q fun z => z),q]; simp⟩,fun n => by rw [Ja5 (hx _ n)]; exact n⟩
  by_cases hbe : b = e
  · subst hbe; exact heo
  · exact ⟨u,k b u hbe q⟩
theorem Un.mono (u : Un fs ex H H1 h h1) (hs : ∀ b ∈ fs,b ∈ fs') (hx : ∀ b ∈ ex,b ∈ ex') : Un fs' ex' H H1 h h1 :=
  ⟨fun b ob q n hb he => u.keep b ob q n (fun z => hb (hs b z)) fun z => he (hx b z),fun _ _ q n _ he => u.any q n fun z => he (hx _ z),fun b ob q n he => u.free b ob q n fun z => he (hx b z),fun b ob q he => u.there b ob q fun z => he (hx b z),u.tups,u.frzs,u.tbls,u.sy⟩
end

def trk (h : Heap) (H : Hp) : List Addr := (List.range h.objs.size).filter fun a => (H a).isSome
def hidT (h : Heap) (H : Hp) : Heap := PySem.W.hideAll h (trk h H)
theorem Js5 (h : Heap) (H : Hp) : (hidT h H).objs.size = h.objs.size := PySem.W.hideAll_size _ _
theorem Jv1 {h : Heap} {H : Hp} {b : Addr} {o : Obj} (e : h.get? b = some o) (n : H b = none) : (hidT h H).get? b = some o :=
  PySem.W.hideAll_get _ e fun hm => by
    have q : (H b).isSome = true := (List.mem_filter.mp hm).2
    rw [n] at q; simp at q
theorem Jyh {h : Heap} {H : Hp} {b : Addr} {o : Obj} (e : (hidT h H).get? b = some o) : h.get? b = some o ∧ H b = none := by
  have e' : h.get? b = some o := PySem.W.of_hideAll (trk h H) e
  refine ⟨e',?_⟩
  cases q : H b with
  | none => rfl
  | some x =>
    have hm : b ∈ trk h H := List.mem_filter.mpr ⟨List.mem_range.mpr (Heap.lt_size e'),by simp [q]⟩
    have z : (hidT h H).get? b = none := PySem.W.hideAll_none (trk h H) hm
    rw [z] at e; cases e

def Jzn (g h : Heap) (L : Addr) : List (Addr × Obj) := (List.range h.objs.size).filterMap fun a => if a = L ∨ (g.get? a).isSome = true then none else (h.get? a).map fun o => (a,o)
def rest (g h : Heap) (L d : Addr) : List (Addr × Obj) := (Jzn g h L).filter fun p => decide (p.1 ≠ d)
end L2

namespace L2
open PySem PySem.Spec PyProof.Rows


structure Mod (K : PySem.W.Frag) (mg : Str → Option Value) (base : Heap) : Prop where
  kin : K.In base
  glob : base.Ns mainGlobals mg
  blt : ∃ mb,base.Ns builtinsNs mb ∧ ∀ x : Str,x ≠ "__name__" → mb x = bootBuiltins x
  nolimit : base.NoLimit

/-- the context: a def's body (or a comprehension's block) running. base: fixed through the whole law; s₀, H₀: the entry; outer: the frames whose slots others may change (a def's callers); stack: all frames that run;
   ex: iterators that were made ahead of the entry and are walked here (a comprehension's); fn: the names whose cells were made at the entry (a def: all; a comprehension's block: its own); calm: not within an except suite; pn: pins that every state bears; xe: what is wanted of an exception that leaves the code -/
structure Cx where
  prog : Program
  w : World
  K : PySem.W.Frag
  mg : Str → Option Value
  base : Heap
  A : Around
  N : List Str
  s₀ : Shared
  H₀ : Hp
  env : Env
  outer : List Env
  stack : List Env
  ex : List Addr
  fn : Str → Bool
  calm : Bool
  pn : List (Addr × Obj)
  xe : Value → Shared → Prop
def frs (l : List Env) : List Addr := l.filterMap (·.frame)
abbrev Cx.fs (X : Cx) : List Addr := frs X.outer

def Vis (sc : Scope) (x : Str) : Prop := sc.names.lookup x = some .local ∨ sc.names.lookup x = some .cell ∨ sc.names.lookup x = some .free
def Loc (sc : Scope) (x : Str) : Prop := sc.names.lookup x = some .local ∨ sc.names.lookup x = some .cell
def Look (env : Env) (h : Heap) (m : Str → Option Value) (x : Str) (u : Value) : Prop :=
  (env.kindOf x = some .local ∧ m x = some u) ∨ ((env.kindOf x = some .cell ∨ env.kindOf x = some .free) ∧ ∃ c,env.cells.lookup x = some c ∧ h.IsCell c (some u))

structure Cx.Ok (X : Cx) : Prop where
  mod : Mod X.K X.mg X.base
  kind : X.env.scope.kind = .function
  glob : X.env.globals = mainGlobals
  blt : X.env.builtins = builtinsNs
  above : X.s₀.heap.objs.size ≤ X.env.locals
  inj : ∀ x y c,X.env.cells.lookup x = some c → X.env.cells.lookup y = some c → x = y
  has : ∀ x,(X.env.kindOf x = some .cell ∨ X.env.kindOf x = some .free) → ∃ c,X.env.cells.lookup x = some c
  cab : ∀ x c,X.fn x = true → X.env.cells.lookup x = some c → X.s₀.heap.objs.size ≤ c
  hd : X.calm = true → X.A.handled = none
  frames : X.A.frames = some X.stack
  stk : X.stack = X.outer ∨ (X.stack = X.env :: X.outer ∧ X.env.frame = some X.env.locals)
  exf : ∀ b ∈ X.ex,b ≠ X.env.locals ∧ ∀ x c,X.env.cells.lookup x = some c → c ≠ b
  bs : ∀ b o,X.base.get? b = some o → X.s₀.heap.get? b = some o ∧ X.H₀ b = none
  bsz : X.base.objs.size ≤ X.s₀.heap.objs.size
  noex : ∀ b o,X.base.get? b = some o → b ∉ X.ex
  exfs : ∀ b ∈ X.ex,b ∉ X.fs
  funs : X.s₀.heap.FunFrames X.base X.outer
  frf : ∀ b ∈ X.fs,X.H₀ b = none
  sy : X.H₀ sysModules = none

structure Inv (X : Cx) (pins : List (Addr × Obj)) (σ : List (Option V)) (H : Hp) (s : Shared) : Prop where
  ok : X.Ok
  os : s.os = X.s₀.os
  bare : AllBare s.gens
  base : Un X.fs X.ex X.H₀ H X.s₀.heap s.heap
  loc : ∃ m,s.heap.Ns X.env.locals m ∧ ∀ (i : Nat) (x : Str) (v : V),X.N[i]? = some x → σ[i]? = some (some v) → Vis X.env.scope x → ∃ u,RelV v u ∧ Look X.env s.heap m x u
  cell : ∀ x c,X.env.cells.lookup x = some c → ∃ v,s.heap.IsCell c v
  free : H X.env.locals = none
  freeC : ∀ x c,X.env.cells.lookup x = some c → H c = none
  pin : ∀ p ∈ X.pn ++ pins,s.heap.get? p.1 = some p.2 ∧ H p.1 = none ∧ p.1 ≠ X.env.locals ∧ p.1 ∉ X.fs ∧ ∀ v,p.2.data ≠ .cell v
  hok : HOk X.prog X.w H s.heap
  len : σ.length = X.N.length

section
variable {X : Cx} {pins : List (Addr × Obj)} {σ : List (Option V)} {H H' : Hp} {s : Shared} {h' : Heap}

theorem Cx.Ok.nofr (ok : X.Ok) {b : Addr} {o : Obj} (e : X.base.get? b = some o) : b ∉ X.fs := fun hb => by
  have := (ok.funs.mem hb).1
  rw [e] at this; cases this
theorem Inv.bs (I : Inv X pins σ H s) : ∀ b o,X.base.get? b = some o → s.heap.get? b = some o ∧ H b = none := fun b o e =>
  ⟨I.base.keep b o (I.ok.bs b o e).1 (I.ok.bs b o e).2 (I.ok.nofr e) (I.ok.noex b o e),I.base.free b o (I.ok.bs b o e).1 (I.ok.bs b o e).2 (I.ok.noex b o e)⟩
theorem Inv.bk (I : Inv X pins σ H s) : ∀ b o,X.base.get? b = some o → s.heap.get? b = some o := fun b o e => (I.bs b o e).1
theorem Inv.mod (I : Inv X pins σ H s) : Mod X.K X.mg X.base := I.ok.mod
theorem Inv.kIn (I : Inv X pins σ H s) : X.K.In s.heap := I.ok.mod.kin.keeps I.bk
theorem Inv.nolimit (I : Inv X pins σ H s) : s.heap.NoLimit := I.ok.mod.nolimit.keeps I.bk
theorem Inv.fr (I : Inv X pins σ H s) : ∃ m,Fr X.base X.env.locals s.heap m :=
  let ⟨m,hn,_⟩ := I.loc
  ⟨m,hn,I.bk,Nat.le_trans I.ok.bsz I.ok.above⟩
theorem Inv.lt (I : Inv X pins σ H s) : X.env.locals < s.heap.objs.size := let ⟨_,hn,_⟩ := I.loc; hn.lt
theorem Inv.sz (I : Inv X pins σ H s) : X.s₀.heap.objs.size ≤ s.heap.objs.size := Nat.le_trans I.ok.above (Nat.le_of_lt I.lt)
theorem Inv.nofs (I : Inv X pins σ H s) {a : Addr} (h : s.heap.objs.size ≤ a) : a ∉ X.fs := fun hb => by
  obtain ⟨_,o,ho,_⟩ := I.ok.funs.mem hb
  exact absurd (Nat.lt_of_lt_of_le (Heap.lt_size ho) (Nat.le_trans I.sz h)) (Nat.lt_irrefl _)
theorem Inv.cne (I : Inv X pins σ H s) : ∀ x c,X.env.cells.lookup x = some c → c ≠ X.env.locals := fun x c e z => by
  obtain ⟨v,o,ho,hd⟩ := I.cell x c e
  obtain ⟨m,⟨o',es,ep,ho',hd',_⟩,_⟩ := I.loc
  rw [z,ho'] at ho; cases ho; rw [hd'] at hd; cases hd
theorem Inv.funs (I : Inv X pins σ H s) : s.heap.FunFrames X.base X.outer := by
  have all : ∀ (l : List Env),(∀ b ∈ frs l,b ∈ X.fs) → X.s₀.heap.FunFrames X.base l → s.heap.FunFrames X.base l := by
    intro l
    induction l with
    | nil => intro _ _; trivial
    | cons env r ih =>
      intro hs hl
      obtain ⟨hk,⟨L,o,hf,hn,ho,hd⟩,hr⟩ := hl
      have hL : L ∈ X.fs := hs L (by unfold frs; rw [List.filterMap_cons,hf]; exact List.mem_cons_self)
      obtain ⟨sl,e⟩ := I.base.slot L o ho (I.ok.frf L hL) hL fun z => I.ok.exfs L z hL
      exact ⟨hk,⟨L,_,hf,hn,e,hd⟩,ih (fun b hb => hs b (by unfold frs; rw [List.filterMap_cons,hf]; exact List.mem_cons_of_mem _ hb)) hr⟩
  exact all X.outer (fun _ hb => hb) I.ok.funs

theorem Inv.stack (I : Inv X pins σ H s) : s.heap.FunFrames X.base X.stack := by
  rcases I.ok.stk with e | ⟨e,hf⟩
  · rw [e]; exact I.funs
  · rw [e]
    obtain ⟨m,hn,_⟩ := I.loc
    refine .cons (by rw [I.ok.kind]; decide) hf hn ?_ I.funs
    exact Heap.get?_none_of_le (Nat.le_trans I.ok.bsz I.ok.above)
theorem Inv.Jm3 (I : Inv X pins σ H s) : ∀ b ∈ frs X.stack,b ∈ X.env.locals :: X.fs := fun b hb => by
  rcases I.ok.stk with e | ⟨e,hf⟩
  · rw [e] at hb; exact List.mem_cons_of_mem _ hb
  · rw [e] at hb
    unfold frs at hb
    rw [List.filterMap_cons,hf] at hb
    exact hb
theorem Inv.Jrn (I : Inv X pins σ H s) : ∀ b ∈ frs X.stack,H b = none := fun b hb => by
  rcases List.mem_cons.mp (I.Jm3 b hb) with e | hb
  · rw [e]; exact I.free
  · obtain ⟨_,o,ho,_⟩ := I.ok.funs.mem hb
    exact I.base.free b o ho (I.ok.frf b hb) fun z => I.ok.exfs b z hb

theorem Inv.bigS (I : Inv X pins σ H s) : sysModules < s.heap.objs.size := by
  obtain ⟨o,_,_,e,_⟩ := I.ok.mod.glob
  exact Nat.lt_trans (by decide : (1 : Nat) < 3) (Heap.lt_size (I.bk _ _ e))
theorem Inv.sysN (I : Inv X pins σ H s) : H sysModules = none := I.base.sy I.ok.sy
theorem Inv.step {g' : Array GenState} {t' : Nat} {d' : Drawn} {ch : List Addr} (I : Inv X pins σ H s)
    (hch : ∀ b ∈ ch,(b ∈ X.ex ∨ X.s₀.heap.objs.size ≤ b) ∧ b ≠ X.env.locals ∧ (∀ x c,X.env.cells.lookup x = some c → c ≠ b) ∧ ∀ p ∈ X.pn ++ pins,p.1 ≠ b)
    (keep : ∀ b o,b ≠ X.env.locals → b ∉ X.fs → b ∉ ch → s.heap.get? b = some o → H b = none → h'.get? b = some o)
    (slot : ∀ b o,b ≠ X.env.locals → b ∈ X.fs → b ∉ ch → s.heap.get? b = some o → H b = none → ∃ sl,h'.get? b = some { o with slots := sl }) (free : ∀ b o,b ∉ ch → s.heap.get? b = some o → H b = none → H' b = none)
    (there : ∀ b o,b ∉ ch → s.heap.get? b = some o → ∃ o',h'.get? b = some o')
    (tups : ∀ b xs,H b = some (.tup xs) → H' b = some (.tup xs)) (frzs : ∀ b o u,H b = some (.frz o u) → H' b = some (.frz o u)) (tbls : ∀ b ps,H b = some (.tbl ps) → ∃ more,H' b = some (.tbl (ps ++ more)))
    (ns : ∀ m,s.heap.Ns X.env.locals m → h'.Ns X.env.locals m) (hok : HOk X.prog X.w H' h') (hg : AllBare g') (sy : H sysModules = none → H' sysModules = none) :
    Inv X pins σ H' { s with heap := h',gens := g',drawn := d',toks := t' } := by
  have neL : ∀ b o,X.s₀.heap.get? b = some o → b ≠ X.env.locals := fun b o e => Nat.ne_of_lt (Nat.lt_of_lt_of_le (Heap.lt_size e) I.ok.above)
  have neC : ∀ b o,X.s₀.heap.get? b = some o → b ∉ X.ex → b ∉ ch := fun b o e hx hb => by
    rcases (hch b hb).1 with z | z
    · exact hx z
    · exact absurd (Nat.lt_of_lt_of_le (Heap.lt_size e) z) (Nat.lt_irrefl _)
  have cellK : ∀ x c,X.env.cells.lookup x = some c → ∀ v,s.heap.IsCell c v → h'.IsCell c v := fun x c e v ⟨o,ho,hd⟩ => by
    have nch : c ∉ ch := fun z => (hch c z).2.2.1 x c e rfl
    by_cases hc : c ∈ X.fs
    · obtain ⟨sl,q⟩ := slot c o (I.cne x c e) hc nch ho (I.freeC x c e)
      exact ⟨_,q,hd⟩
    · exact ⟨o,keep c o (I.cne x c e) hc nch ho (I.freeC x c e),hd⟩
  refine ⟨I.ok,I.os,hg,⟨fun b o e n hb hx => ?_,fun b o e n hb hx => ?_,fun b o e n hx => ?_,fun b o e hx => ?_,fun b xs e => tups b xs (I.base.tups b xs e),fun b o xs e => frzs b o xs (I.base.frzs b o xs e),fun b ps e => ?_,fun n => sy (I.base.sy n)⟩,?_,fun x c e => ?_,?_,fun x c e => ?_,fun p hp => ?_,hok,I.len⟩
  · exact keep b o (neL b o e) hb (neC b o e hx) (I.base.keep b o e n hb hx) (I.base.free b o e n hx)
  · obtain ⟨sl,e1⟩ := I.base.slot b o e n hb hx
    obtain ⟨sl',e2⟩ := slot b _ (neL b o e) hb (neC b o e hx) e1 (I.base.free b o e n hx)
    exact ⟨sl',e2⟩
  · obtain ⟨o',e1⟩ := I.base.there b o e hx
    exact free b o' (neC b o e hx) e1 (I.base.free b o e n hx)
  · obtain ⟨o',e1⟩ := I.base.there b o e hx
    exact there b o' (neC b o e hx) e1
  · obtain ⟨m1,e1⟩ := I.base.tbls b ps e
    obtain ⟨m2,e2⟩ := tbls b _ e1
    exact ⟨m1 ++ m2,by rw [e2,Array.append_assoc]⟩
  · obtain ⟨m,hn,hl⟩ := I.loc
    refine ⟨m,ns m hn,fun i x v e1 e2 e3 => ?_⟩
    obtain ⟨u,r,l⟩ := hl i x v e1 e2 e3
    refine ⟨u,r,?_⟩
    rcases l with l | ⟨k,c,e,z⟩
    · exact .inl l
    · exact .inr ⟨k,c,e,cellK x c e _ z⟩
  · obtain ⟨v,z⟩ := I.cell x c e
    exact ⟨v,cellK x c e v z⟩
  · obtain ⟨m,⟨o,_,_,ho,_⟩,_⟩ := I.loc
    exact free _ o (fun z => (hch _ z).2.1 rfl) ho I.free
  · obtain ⟨v,o,ho,hd⟩ := I.cell x c e
    exact free c o (fun z => (hch c z).2.2.1 x c e rfl) ho (I.freeC x c e)
  · obtain ⟨e,n,ne,nf,d⟩ := I.pin p hp
    have nch : p.1 ∉ ch := fun z => (hch p.1 z).2.2.2 p hp rfl
    exact ⟨keep p.1 p.2 ne nf nch e n,free p.1 p.2 nch e n,ne,nf,d⟩
theorem Inv.un {t' : Nat} (I : Inv X pins σ H s) (u : Un X.fs [] H H' s.heap h') (hok : HOk X.prog X.w H' h') : Inv X pins σ H' { s with heap := h',toks := t' } := by
  obtain ⟨m,⟨o,es,ep,ho,r⟩,_⟩ := id I.loc
  obtain ⟨sl,hL⟩ := u.any ho I.free (by simp)
  exact I.step (g' := s.gens) (d' := s.drawn) (ch := []) (fun _ z => nomatch z) (fun b o _ hb _ e n => u.keep b o e n hb (by simp)) (fun b o _ hb _ e n => u.slot b o e n hb (by simp)) (fun b o _ e n => u.free b o e n (by simp)) (fun b o _ e => u.there b o e (by simp)) u.tups u.frzs u.tbls (fun m' hm => by
    obtain ⟨o',es',ep',ho',r'⟩ := hm
    rw [ho] at ho'; cases ho'
    exact ⟨_,es',ep',hL,r'⟩) hok I.bare u.sy
theorem Inv.call {g' : Array GenState} {t' : Nat} {d' : Drawn} {ch : List Addr} (I : Inv X pins σ H s) (u : Un (frs X.stack) ch H H' s.heap h') (hok : HOk X.prog X.w H' h') (hg : AllBare g')
    (hch : ∀ b ∈ ch,(b ∈ X.ex ∨ X.s₀.heap.objs.size ≤ b) ∧ b ≠ X.env.locals ∧ (∀ x c,X.env.cells.lookup x = some c → c ≠ b) ∧ ∀ p ∈ X.pn ++ pins,p.1 ≠ b) :
    Inv X pins σ H' { s with heap := h',gens := g',drawn := d',toks := t' } := by
  obtain ⟨m,⟨o,es,ep,ho,r⟩,_⟩ := id I.loc
  obtain ⟨sl,hL⟩ := u.any ho I.free fun z => (hch _ z).2.1 rfl
  exact I.step (ch := ch) hch (fun b o hL hb hc e n => u.keep b o e n (fun z => (List.mem_cons.mp (I.Jm3 b z)).elim hL hb) hc) (fun b o _ _ hc e n => u.any e n hc) (fun b o hc e n => u.free b o e n hc) (fun b o hc e => u.there b o e hc) u.tups u.frzs u.tbls (fun m' hm => by
    obtain ⟨o',es',ep',ho',r'⟩ := hm
    rw [ho] at ho'; cases ho'
    exact ⟨_,es',ep',hL,r'⟩) hok hg u.sy
theorem Inv.turned {t' : Nat} {it : Addr} (I : Inv X pins σ H s) (k : ∀ b o,b ≠ it → s.heap.get? b = some o → h'.get? b = some o) (hn : H it = none) (hL : it ≠ X.env.locals)
    (h1 : it ∈ X.ex ∨ X.s₀.heap.objs.size ≤ it) (h2 : ∀ x c,X.env.cells.lookup x = some c → c ≠ it) (h3 : ∀ p ∈ X.pn ++ pins,p.1 ≠ it) : Inv X pins σ H { s with heap := h',toks := t' } := by
  have nit : ∀ b u,H b = some u → b ≠ it := fun b u e z => by rw [z,hn] at e; cases e
  refine I.step (g' := s.gens) (d' := s.drawn) (ch := [it]) (fun b hb => ?_) (fun b o _ _ hc e _ => k b o (fun z => hc (by simp [z])) e) (fun b o _ _ hc e _ => ⟨o.slots,k b o (fun z => hc (by simp [z])) e⟩) (fun _ _ _ _ n => n)
    (fun b o hc e => ⟨o,k b o (fun z => hc (by simp [z])) e⟩) (fun _ _ e => e) (fun _ _ _ e => e) (fun b ps e => ⟨#[],by rw [e]; simp⟩) (fun m hm => ?_) (fun b u e => ?_) I.bare id
  · have e : b = it := by simpa using hb
    subst e
    exact ⟨h1,hL,h2,h3⟩
  · obtain ⟨o,es,ep,ho,r⟩ := hm
    exact ⟨o,es,ep,k _ o (Ne.symm hL) ho,r⟩
  · refine (I.hok b u e).stay (fun c v hc q => k c v ?_ q) (fun _ q => q) fun _ _ q => q
    rcases hc with z | z
    · rw [z]; exact nit b u e
    · exact nit c _ z
theorem Inv.tok (I : Inv X pins σ H s) (t : Nat) : Inv X pins σ H { s with toks := t } := I.un (h' := s.heap) (t' := t) Un.refl I.hok
theorem Inv.kept {t' : Nat} (I : Inv X pins σ H s) (k : ∀ b u,s.heap.get? b = some u → h'.get? b = some u) : Inv X pins σ H { s with heap := h',toks := t' } := I.un (Un.kept k) (I.hok.kept k)
theorem Inv.laid {a : Addr} {o : HO} {t' : Nat} (I : Inv X pins σ H s) (k : ∀ b u,s.heap.get? b = some u → h'.get? b = some u) (hp : s.heap.objs.size ≤ a) (new : Jd1 X.prog X.w (upd H a o) h' a o) :
    Inv X pins σ (upd H a o) { s with heap := h',toks := t' } := I.un (Un.laid k hp (I.hok.fresh hp) (Nat.ne_of_lt (Nat.lt_of_lt_of_le I.bigS hp))) (I.hok.laid k hp new)
theorem Inv.write {x e : Addr} {o : HO} {t' : Nat} (I : Inv X pins σ H s) (mu : Mut (H x)) (he : e = x ∨ H e = some (.own x)) (k : ∀ b u,b ≠ e → s.heap.get? b = some u → h'.get? b = some u) (heo : ∃ u,h'.get? e = some u)
    (new : Jd1 X.prog X.w (upd H x o) h' x o) : Inv X pins σ (upd H x o) { s with heap := h',toks := t' } := I.un (Un.write mu he k heo) (I.hok.write mu he k heo new)
theorem Inv.weak {σ' : List (Option V)} (I : Inv X pins σ H s) (hl : σ'.length = σ.length) (w : ∀ (i : Nat) v,σ'[i]? = some (some v) → σ[i]? = some (some v)) : Inv X pins σ' H s :=
  ⟨I.ok,I.os,I.bare,I.base,let ⟨m,hn,hl'⟩ := I.loc; ⟨m,hn,fun i x v e1 e2 e3 => hl' i x v e1 (w i v e2) e3⟩,I.cell,I.free,I.freeC,I.pin,I.hok,hl.trans I.len⟩
theorem Inv.Jl7 {pins' : List (Addr × Obj)} (I : Inv X pins σ H s) (h : ∀ p ∈ pins',s.heap.get? p.1 = some p.2 ∧ H p.1 = none ∧ p.1 ≠ X.env.locals ∧ p.1 ∉ X.fs ∧ ∀ v,p.2.data ≠ .cell v) : Inv X pins' σ H s :=
  ⟨I.ok,I.os,I.bare,I.base,I.loc,I.cell,I.free,I.freeC,fun p hp => (List.mem_append.mp hp).elim (fun z => I.pin p (List.mem_append_left _ z)) (h p),I.hok,I.len⟩

theorem Jp3 {N : List Str} (hN : N.Nodup) {i j : Nat} {x : Str} (a : N[i]? = some x) (b : N[j]? = some x) : i = j := by
  obtain ⟨h1,e1⟩ := List.getElem?_eq_some_iff.mp a
  obtain ⟨h2,e2⟩ := List.getElem?_eq_some_iff.mp b
  exact (List.getElem_inj hN).mp (e1.trans e2.symm)

theorem Jm2 {M : Model} {A : Around} {E : Value → Shared → Prop} {i : Nat} {x : Str} {v : V} {u : Value} {Q : Unit → Shared → Prop} (I : Inv X pins σ H s) (hN : X.N.Nodup) (hi : X.N[i]? = some x) (hx : Loc X.env.scope x) (r : RelV v u)
    (h : ∀ s',Inv X pins (σ.set i (some v)) H s' → (∃ a,Heap.SameBut a s.heap s'.heap ∧ (a = X.env.locals ∨ X.env.cells.lookup x = some a)) → Q () s') (hf : X.fn x = true ∨ X.env.scope.names.lookup x = some .local := by first | exact .inl rfl | exact .inr rfl | assumption) : wpAny M A (storeName X.env x u) Q E s := by
  obtain ⟨m,hn,hl⟩ := id I.loc
  have hcls : (X.env.scope.kind == .class || (X.env.scope.kind == .module && X.env.locals != X.env.globals)) = false := by rw [I.ok.kind]; rfl
  have hiσ : i < σ.length := by rw [I.len]; exact (List.getElem?_eq_some_iff.mp hi).1
  have cne := I.cne
  have tracked : ∀ {a : Addr} {h' : Heap},(∃ o,s.heap.get? a = some o ∧ H a = none) → Heap.SameBut a s.heap h' → HOk X.prog X.w H h' := fun {a h'} ha hs b ob e => by
    obtain ⟨_,_,hfree⟩ := ha
    refine (I.hok b ob e).stay (fun c w' hc q => (hs.2 c ?_).trans q) (fun _ q => q) fun _ _ q => q
    rintro rfl
    rcases hc with rfl | hc
    · rw [hfree] at e; cases e
    · rw [hfree] at hc; cases hc
  rcases hx with hk | hk
  · refine wpAny_storeName_local hk hn (fun h' hn' hs => ?_) hcls
    obtain ⟨oL,_,_,hoL,_⟩ := id hn
    refine h _ ⟨I.ok,I.os,I.bare,⟨fun b o e n hb hx => ?_,fun b o e n hb hx => ?_,I.base.free,fun b o e hx => ?_,I.base.tups,I.base.frzs,I.base.tbls,I.base.sy⟩,⟨_,hn',fun j y v' e1 e2 e3 => ?_⟩,fun y c e => ?_,I.free,I.freeC,fun p hp => ?_,tracked ⟨oL,hoL,I.free⟩ hs,by simpa using I.len⟩ ⟨_,hs,.inl rfl⟩
    · exact (hs.2 b (Nat.ne_of_lt (Nat.lt_of_lt_of_le (Heap.lt_size e) I.ok.above))).trans (I.base.keep b o e n hb hx)
    · obtain ⟨sl,e1⟩ := I.base.slot b o e n hb hx
      exact ⟨sl,(hs.2 b (Nat.ne_of_lt (Nat.lt_of_lt_of_le (Heap.lt_size e) I.ok.above))).trans e1⟩
    · obtain ⟨o',e1⟩ := I.base.there b o e hx
      exact ⟨o',(hs.2 b (Nat.ne_of_lt (Nat.lt_of_lt_of_le (Heap.lt_size e) I.ok.above))).trans e1⟩
    · by_cases hj : j = i
      · subst hj
        rw [hi] at e1; cases e1
        rw [List.getElem?_set_self hiσ] at e2
        cases e2
        exact ⟨u,r,.inl ⟨hk,by simp⟩⟩
      · rw [List.getElem?_set_ne (Ne.symm hj)] at e2
        obtain ⟨u',r',q⟩ := hl j y v' e1 e2 e3
        refine ⟨u',r',?_⟩
        rcases q with ⟨k,e⟩ | ⟨k,c,e,z⟩
        · refine .inl ⟨k,?_⟩
          have : y ≠ x := fun e => hj (Jp3 hN e1 (e ▸ hi))
          simp [this,e]
        · exact .inr ⟨k,c,e,z.sameBut hs (cne y c e)⟩
    · obtain ⟨w',z⟩ := I.cell y c e
      exact ⟨w',z.sameBut hs (cne y c e)⟩
    · obtain ⟨e,n,ne,nf,d⟩ := I.pin p hp
      exact ⟨(hs.2 p.1 ne).trans e,n,ne,nf,d⟩
  · have hfn : X.fn x = true := by
      rcases hf with z | z
      · exact z
      · rw [z] at hk; cases hk
    obtain ⟨c,hc⟩ := I.ok.has x (.inl hk)
    obtain ⟨w',z⟩ := I.cell x c hc
    refine wpAny_storeName_cell I.ok.kind hk hc z (fun h' hc' hs => ?_)
    obtain ⟨oc,hoc,hocd⟩ := id z
    refine h { s with heap := h' } ⟨I.ok,I.os,I.bare,⟨fun b o e n hb hx => ?_,fun b o e n hb hx => ?_,I.base.free,fun b o e hx => ?_,I.base.tups,I.base.frzs,I.base.tbls,I.base.sy⟩,⟨m,hn.sameBut hs (Ne.symm (cne x c hc)),fun j y v' e1 e2 e3 => ?_⟩,fun y c' e => ?_,I.free,I.freeC,fun p hp => ?_,tracked ⟨oc,hoc,I.freeC x c hc⟩ hs,by simpa using I.len⟩ ⟨c,hs,.inr hc⟩
    · exact (hs.2 b (Nat.ne_of_lt (Nat.lt_of_lt_of_le (Heap.lt_size e) (I.ok.cab x c hfn hc)))).trans (I.base.keep b o e n hb hx)
    · obtain ⟨sl,e1⟩ := I.base.slot b o e n hb hx
      exact ⟨sl,(hs.2 b (Nat.ne_of_lt (Nat.lt_of_lt_of_le (Heap.lt_size e) (I.ok.cab x c hfn hc)))).trans e1⟩
    · obtain ⟨o',e1⟩ := I.base.there b o e hx
      exact ⟨o',(hs.2 b (Nat.ne_of_lt (Nat.lt_of_lt_of_le (Heap.lt_size e) (I.ok.cab x c hfn hc)))).trans e1⟩
    · by_cases hj : j = i
      · subst hj
        rw [hi] at e1; cases e1
        rw [List.getElem?_set_self hiσ] at e2
        cases e2
        exact ⟨u,r,.inr ⟨.inl hk,c,hc,hc'⟩⟩
      · rw [List.getElem?_set_ne (Ne.symm hj)] at e2
        obtain ⟨u',r',q⟩ := hl j y v' e1 e2 e3
        refine ⟨u',r',?_⟩
        rcases q with q | ⟨k,c',e,z'⟩
        · exact .inl q
        · refine .inr ⟨k,c',e,z'.sameBut hs ?_⟩
          rintro rfl
          exact hj (Jp3 hN e1 (I.ok.inj _ _ _ e hc ▸ hi))
    · by_cases hcc : c' = c
      · subst hcc; exact ⟨_,hc'⟩
      · obtain ⟨w2,z2⟩ := I.cell y c' e
        exact ⟨w2,z2.sameBut hs hcc⟩
    · obtain ⟨e,n,ne,nf,d⟩ := I.pin p hp
      refine ⟨(hs.2 p.1 ?_).trans e,n,ne,nf,d⟩
      intro q
      rw [q,hoc] at e
      have q' : oc = p.2 := Option.some.inj e
      exact d w' (by rw [← q']; exact hocd)
theorem Jpm {M : Model} {A : Around} {E : Value → Shared → Prop} {i : Nat} {x : Str} {v : V} {u : Value} {Q : Unit → Shared → Prop} (I : Inv X pins σ H s) (hN : X.N.Nodup) (hi : X.N[i]? = some x) (hx : Loc X.env.scope x) (r : RelV v u)
    (h : ∀ s',Inv X pins (σ.set i (some v)) H s' → Q () s') (hf : X.fn x = true ∨ X.env.scope.names.lookup x = some .local := by first | exact .inl rfl | exact .inr rfl | assumption) : wpAny M A (storeName X.env x u) Q E s :=
  Jm2 I hN hi hx r (fun s' I' _ => h s' I') hf
theorem Inv.call' {s' : Shared} {ch : List Addr} (I : Inv X pins σ H s) (ho : s'.os = s.os) (u : Un (frs X.stack) ch H H' s.heap s'.heap) (hok : HOk X.prog X.w H' s'.heap) (hg : AllBare s'.gens)
    (hch : ∀ b ∈ ch,(b ∈ X.ex ∨ X.s₀.heap.objs.size ≤ b) ∧ b ≠ X.env.locals ∧ (∀ x c,X.env.cells.lookup x = some c → c ≠ b) ∧ ∀ p ∈ X.pn ++ pins,p.1 ≠ b) : Inv X pins σ H' s' := by
  obtain ⟨h',g',d',t',o'⟩ := s'
  have e : o' = s.os := ho
  subst e
  exact I.call (g' := g') (t' := t') (d' := d') u hok hg hch
end

abbrev XK := Value → Option Addr → Hp → Prop
abbrev St := List (Option V)
abbrev VK := V → Hp → Prop
abbrev TE := St → Hp → VK → Prop
abbrev TT := St → Hp → (Bool → Hp → Prop) → Prop
abbrev TA := St → Hp → (List V → Hp → Prop) → Prop

structure Ends where
  nx : St → Hp → Prop
  rt : VK
  bk : St → Hp → Prop := fun _ _ => False
  ct : St → Hp → Prop := fun _ _ => False
abbrev TS := Ends → St → Hp → Prop

def EP (X : Cx) (pins : List (Addr × Obj)) (σ : St) (Q : VK) (u : Value) (s' : Shared) : Prop := ∃ v H',Inv X pins σ H' s' ∧ RelV v u ∧ Q v H'
def TP (X : Cx) (pins : List (Addr × Obj)) (σ : St) (Q : Bool → Hp → Prop) (b : Bool) (s' : Shared) : Prop := ∃ H',Inv X pins σ H' s' ∧ Q b H'
def AP (X : Cx) (pins : List (Addr × Obj)) (σ : St) (Q : List V → Hp → Prop) (us : List Value) (s' : Shared) : Prop := ∃ vs H',Inv X pins σ H' s' ∧ Vals vs us ∧ Q vs H'
def SP (X : Cx) (pins : List (Addr × Obj)) (D : Ends) (f : Flow) (s' : Shared) : Prop :=
  match f with
  | .next => ∃ σ' H',Inv X pins σ' H' s' ∧ D.nx σ' H'
  | .brk => ∃ σ' H',Inv X pins σ' H' s' ∧ D.bk σ' H'
  | .cont => ∃ σ' H',Inv X pins σ' H' s' ∧ D.ct σ' H'
  | .ret u => ∃ v σ' H',Inv X pins σ' H' s' ∧ RelV v u ∧ D.rt v H'

def PE (X : Cx) (e : Expr) (t : TE) : Prop :=
  ∀ (pins : List (Addr × Obj)) (s : Shared) (σ : St) (H : Hp) (Q : VK),Inv X pins σ H s → t σ H Q → wpAny (model X.prog X.w) X.A (eval e X.env) (EP X pins σ Q) X.xe s
def PT (X : Cx) (e : Expr) (t : TT) : Prop :=
  ∀ (pins : List (Addr × Obj)) (s : Shared) (σ : St) (H : Hp) (Q : Bool → Hp → Prop),Inv X pins σ H s → t σ H Q → wpAny (model X.prog X.w) X.A (isTrue e X.env (eval e X.env)) (TP X pins σ Q) X.xe s
def PW (X : Cx) (e : Expr) (t : TT) : Prop :=
  ∀ (whole : Sem Value) (pins : List (Addr × Obj)) (s : Shared) (σ : St) (H : Hp) (Q : Bool → Hp → Prop),Inv X pins σ H s → t σ H Q → wpAny (model X.prog X.w) X.A (isTrue e X.env whole) (TP X pins σ Q) X.xe s
theorem PW.pt {X : Cx} {e : Expr} {t : TT} (h : PW X e t) : PT X e t := h _
def PA (X : Cx) (es : List Expr) (t : TA) : Prop :=
  ∀ (pos : Pos) (pins : List (Addr × Obj)) (s : Shared) (σ : St) (H : Hp) (Q : List V → Hp → Prop),Inv X pins σ H s → t σ H Q → wpAny (model X.prog X.w) X.A (spliced (backTo pos (starEach es X.env))) (AP X pins σ Q) X.xe s
def PS (X : Cx) (st : Stmt) (t : TS) : Prop :=
  ∀ (pins : List (Addr × Obj)) (s : Shared) (σ : St) (H : Hp) (D : Ends),Inv X pins σ H s → t D σ H → wpAny (model X.prog X.w) X.A (exec st X.env) (SP X pins D) X.xe s
def PSs (X : Cx) (st : List Stmt) (t : TS) : Prop :=
  ∀ (pins : List (Addr × Obj)) (s : Shared) (σ : St) (H : Hp) (D : Ends),Inv X pins σ H s → t D σ H → wpAny (model X.prog X.w) X.A (execs st X.env) (SP X pins D) X.xe s
theorem thn {α : Type} {t : Sem α} {Q Q' : α → Shared → Prop} {M : Model} {A : Around} {E : Value → Shared → Prop} {s : Shared} (h : wpAny M A t Q E s) (hQ : ∀ a s,Q a s → Q' a s) : wpAny M A t Q' E s := wpAny_mono h hQ fun _ _ x => x
end L2

namespace L2
open PySem PySem.Spec PyProof.Rows
section
variable {X : Cx}

theorem bin {a b : Expr} {ta tb : TE} (ha : PE X a ta) (hb : PE X b tb) {pins : List (Addr × Obj)} {s : Shared} {σ : St} {H : Hp} {R : V → V → Hp → Prop} (I : Inv X pins σ H s) (h : ta σ H fun x H1 => tb σ H1 fun y H2 => R x y H2)
    {α : Type} {Q : α → Shared → Prop} {f : Value → Value → Sem α}
    (hf : ∀ v u s2 x y H2,Inv X pins σ H2 s2 → RelV x v → RelV y u → R x y H2 → wpAny (model X.prog X.w) X.A (f v u) Q X.xe s2) :
    wpAny (model X.prog X.w) X.A (eval a X.env) (fun v s₁ => wpAny (model X.prog X.w) X.A (eval b X.env) (fun u s₂ => wpAny (model X.prog X.w) X.A (f v u) Q X.xe s₂) X.xe s₁) X.xe s := by
  refine thn (ha pins s σ H _ I h) fun v s1 ⟨x,H1,I1,r1,q1⟩ => ?_
  refine thn (hb pins s1 σ H1 _ I1 q1) fun u s2 ⟨y,H2,I2,r2,q2⟩ => ?_
  exact hf v u s2 x y H2 I2 r1 r2 q2

def tVar (i : Nat) : TE := fun σ H Q => ∃ v,σ[i]? = some (some v) ∧ Q v H
def tC (v : V) : TE := fun _ H Q => Q v H
theorem JAl {i : Nat} {x : Str} {pos : Pos} (hN : X.N[i]? = some x) (hv : Vis X.env.scope x) (hd : (x == ("__debug__" : Str)) = false := by decide) (hcd : (x == ("__classdict__" : Str)) = false := by decide) : PE X (.Name x pos) (tVar i) := by
  intro pins s σ H Q I h
  obtain ⟨v,e,h⟩ := h
  obtain ⟨m,hn,hl⟩ := I.loc
  obtain ⟨u,r,l⟩ := hl i x v hN e hv
  have fin : EP X pins σ Q u s := ⟨v,H,I,r,h⟩
  rcases l with ⟨hk,hm⟩ | ⟨hk,c,hc,hcell⟩
  · exact wpAny_Name (wpAny_loadName_local I.ok.kind hk hn hm fin) hd
  · rcases hk with hk | hk
    · exact wpAny_Name (wpAny_loadName_cell I.ok.kind hk hc hcell fin) hd
    · exact wpAny_Name (wpAny_loadName_free I.ok.kind hk hc hcell fin hcd) hd
theorem JAq {i j pos} : PE X (.Constant (.int i) j pos) (tC (.int i)) := fun _ _ _ H _ I h => wpAny_Constant_int ⟨.int i,H,I.tok _,⟨_,rfl⟩,h⟩
theorem JC2 {b j pos} : PE X (.Constant (.bool b) j pos) (tC (.bl b)) := fun _ _ _ H _ I h => Constant_bool ⟨.bl b,H,I,rfl,h⟩
theorem JAp {j pos} : PE X (.Constant .none j pos) (tC .non) := fun _ _ _ H _ I h => Constant_none ⟨.non,H,I,rfl,h⟩
def Gl (X : Cx) (x : Str) : Prop := X.env.kindOf x = some .globalImplicit
theorem Jst {E : Value → Shared → Prop} {pins : List (Addr × Obj)} {s : Shared} {σ : St} {H : Hp} {x : Str} {u : Value} {pos : Pos} {Q : Value → Shared → Prop} (I : Inv X pins σ H s) (hg : Gl X x) (hm : X.mg x = some u) (h : Q u s)
    (hd : (x == ("__debug__" : Str)) = false := by decide) : wpAny (model X.prog X.w) X.A (eval (.Name x pos) X.env) Q E s :=
  Calls.Name_function_global I.ok.kind hg (Calls.loadGlobal_global (by rw [I.ok.glob]; exact I.mod.glob.keeps I.bk) hm h) hd
theorem Jka {E : Value → Shared → Prop} {pins : List (Addr × Obj)} {s : Shared} {σ : St} {H : Hp} {x : Str} {u : Value} {pos : Pos} {Q : Value → Shared → Prop} (I : Inv X pins σ H s) (hg : Gl X x) (hm : X.mg x = none) (hv : bootBuiltins x = some u) (h : Q u s)
    (hn : x ≠ "__name__" := by decide) (hd : (x == ("__debug__" : Str)) = false := by decide) : wpAny (model X.prog X.w) X.A (eval (.Name x pos) X.env) Q E s := by
  obtain ⟨mb,h1,h2⟩ := I.mod.blt
  exact Calls.Name_function_global I.ok.kind hg (Calls.loadGlobal_builtin (by rw [I.ok.glob]; exact I.mod.glob.keeps I.bk) hm (by rw [I.ok.blt]; exact h1.keeps I.bk) ((h2 x hn).trans hv) h) hd
theorem Jsc {x : Str} {v : V} {u : Value} {pos : Pos} (hg : Gl X x) (hm : X.mg x = some u) (r : RelV v u) (hd : (x == ("__debug__" : Str)) = false := by decide) : PE X (.Name x pos) (tC v) :=
  fun _ _ _ H _ I h => Jst I hg hm ⟨v,H,I,r,h⟩ hd
theorem Jyc {x : Str} {v : V} {u : Value} {pos : Pos} (hg : Gl X x) (hm : X.mg x = none) (hv : bootBuiltins x = some u) (r : RelV v u) (hn : x ≠ "__name__" := by decide) (hd : (x == ("__debug__" : Str)) = false := by decide) : PE X (.Name x pos) (tC v) :=
  fun _ _ _ H _ I h => Jka I hg hm hv ⟨v,H,I,r,h⟩ hn hd

variable {a b : Expr} {ta tb : TE} {pos : Pos}
def PC (X : Cx) (op : CmpOp) (a b : Expr) (t : TE) : Prop :=
  ∀ (pins : List (Addr × Obj)) (s : Shared) (σ : St) (H : Hp) (Q : VK),Inv X pins σ H s → t σ H Q →
    wpAny (model X.prog X.w) X.A (eval a X.env) (fun v s₁ => wpAny (model X.prog X.w) X.A (eval b X.env) (fun u s₂ => wpAny (model X.prog X.w) X.A (compareOp op v u) (EP X pins σ Q) X.xe s₂) X.xe s₁) X.xe s
theorem Ju3 (b : Expr) {op : CmpOp} (h : op ≠ .In) (h2 : op ≠ .NotIn) : behindInMarks op b = false := by
  have e1 : (op == CmpOp.In) = false := by cases op <;> first | rfl | exact absurd rfl h
  have e2 : (op == CmpOp.NotIn) = false := by cases op <;> first | rfl | exact absurd rfl h2
  cases b <;> simp [behindInMarks,e1,e2]
def tB (t : TE) : TT := fun σ H Q => t σ H fun x H1 => ∃ c,x = .bl c ∧ Q c H1
theorem JDx {op : CmpOp} {t : TE} (h : PC X op a b t) (h1 : behindInMarks op b = false := by first | exact Ju3 _ (by decide) (by decide) | rfl) : PT X (.Compare a [op] [b] pos) (tB t) := by
  intro pins s σ H Q I hw
  refine wpAny_isTrue_Compare1 (thn (h pins s σ H _ I hw) fun v s1 h1 => thn h1 fun u s2 h2 => thn h2 fun c s3 ⟨x,H1,I1,r1,q1⟩ => ?_) h1
  obtain ⟨d,rfl,q⟩ := q1
  cases r1
  exact wpAny_truthy_bool ⟨H1,I1,q⟩
theorem JAd {e : Expr} {t : TE} (h : PE X e t) (he : ∀ whole,isTrue e X.env whole = (do let v ← whole; standAt e.pos; holding [v] (truthy v)) := by intro _; rfl) : PT X e (tB t) := by
  intro pins s σ H Q I hw
  refine isTrue_plain (thn (h pins s σ H _ I hw) fun v s1 ⟨x,H1,I1,r1,q1⟩ => ?_) (he _)
  obtain ⟨d,rfl,q⟩ := q1
  cases r1
  exact wpAny_truthy_bool ⟨H1,I1,q⟩

variable {tA tB' : TT} {rest : List Expr}
def tAnd (t u : TT) : TT := fun σ H Q => t σ H fun c H1 => if c = true then u σ H1 Q else Q false H1
def tOr (t u : TT) : TT := fun σ H Q => t σ H fun c H1 => if c = true then Q true H1 else u σ H1 Q
def tNot (t : TT) : TT := fun σ H Q => t σ H fun c H1 => Q (!c) H1
theorem Jxw (ha : PT X a tA) : PW X (.BoolOp .And [a] pos) tA := by
  intro wh pins s σ H Q I h
  refine isTrue_and (thn (ha pins s σ H Q I h) fun c s1 e => ?_)
  cases c with
  | true => exact isTrue_and_nil e
  | false => exact e
theorem Jz8 (ha : PT X a tA) : PW X (.BoolOp .Or [a] pos) tA := by
  intro wh pins s σ H Q I h
  refine isTrue_or (thn (ha pins s σ H Q I h) fun c s1 e => ?_)
  cases c with
  | false => exact isTrue_or_nil e
  | true => exact e
theorem Jz9 (ha : PT X a tA) (hb : PW X (.BoolOp .And (b :: rest) pos) tB') : PW X (.BoolOp .And (a :: b :: rest) pos) (tAnd tA tB') := by
  intro wh pins s σ H Q I h
  refine isTrue_and (thn (ha pins s σ H _ I h) fun c s1 ⟨H1,I1,q1⟩ => ?_)
  cases c with
  | true => exact hb wh pins s1 σ H1 Q I1 q1
  | false => exact ⟨H1,I1,q1⟩
theorem JCw (ha : PT X a tA) (hb : PW X (.BoolOp .Or (b :: rest) pos) tB') : PW X (.BoolOp .Or (a :: b :: rest) pos) (tOr tA tB') := by
  intro wh pins s σ H Q I h
  refine isTrue_or (thn (ha pins s σ H _ I h) fun c s1 ⟨H1,I1,q1⟩ => ?_)
  cases c with
  | true => exact ⟨H1,I1,q1⟩
  | false => exact hb wh pins s1 σ H1 Q I1 q1
theorem JAe (ha : PT X a tA) : PT X (.UnaryOp .Not a pos) (tNot tA) := by
  intro pins s σ H Q I h
  exact isTrue_not (ha pins s σ H (fun c H1 => Q (!c) H1) I h)
def JCq (ta tb : TE) : TE := fun σ H Q => ta σ H fun x H1 => ∃ c,x = .bl c ∧ if c = true then tb σ H1 Q else Q (.bl false) H1
def JCn (ta : TE) : TE := fun σ H Q => ta σ H fun x H1 => ∃ c,x = .bl c ∧ Q (.bl (!c)) H1
theorem JAn {op} {t : TE} (h : PE X a t) : PE X (.BoolOp op [a] pos) t := fun pins s σ H Q I hw => BoolOp_one (h pins s σ H Q I hw)
theorem JAr (ha : PE X a ta) (hb : PE X (.BoolOp .And (b :: rest) pos) tb) : PE X (.BoolOp .And (a :: b :: rest) pos) (JCq ta tb) := by
  intro pins s σ H Q I h
  refine BoolOp_and (thn (ha pins s σ H _ I h) fun v s1 ⟨x,H1,I1,r1,q1⟩ => ?_)
  obtain ⟨c,rfl,q1⟩ := q1
  cases r1
  refine wpAny_truthy_bool ?_
  cases c with
  | true => exact hb pins s1 σ H1 Q I1 q1
  | false => exact ⟨.bl false,H1,I1,rfl,q1⟩
theorem JAo (ha : PE X a ta) : PE X (.UnaryOp .Not a pos) (JCn ta) := by
  intro pins s σ H Q I h
  refine UnaryOp_ (thn (ha pins s σ H _ I h) fun v s1 ⟨x,H1,I1,r1,q1⟩ => ?_)
  obtain ⟨c,rfl,q1⟩ := q1
  cases r1
  exact not_of (wpAny_truthy_bool ⟨.bl (!c),H1,I1,rfl,q1⟩)
end
end L2

namespace L2
open PySem PySem.Spec PyProof.Rows

def SqL (K : PySem.W.Frag) (H : Hp) (a : Addr) (xs : List V) : Prop :=
  Rd H a (.lst xs) ∨
    ∃ (o : Obj) (its : Array Value) (n : Nat),K.lookup a = some o ∧ o.cls = .type "list" ∧ o.dict = none ∧ o.data = .seq its n ∧ its.size ≤ sizeLine ∧ Vals xs its.toList
def SqT (K : PySem.W.Frag) (H : Hp) (a : Addr) (xs : List V) : Prop :=
  Rd H a (.tup xs) ∨
    ∃ (o : Obj) (its : Array Value) (n : Nat),K.lookup a = some o ∧ o.cls = .type "tuple" ∧ o.data = .seq its n ∧ its.size ≤ sizeLine ∧ Vals xs its.toList
def absV : Value → Option V
  | .none => some .non
  | .bool b => some (.bl b)
  | .int i _ => some (.int i)
  | .str x _ => some (.str x)
  | .bytes b _ => some (.byt b)
  | .float b _ => some (.flt b)
  | .ref a => some (.ref a)
  | .type n => some (.ty n)
  | _ => none
theorem RelV.abs {x : V} {u : Value} (r : RelV x u) : absV u = some x := by
  cases x with
  | non => cases r; rfl
  | bl _ => cases r; rfl
  | int _ => obtain ⟨t,rfl⟩ := r; rfl
  | str _ => obtain ⟨t,rfl⟩ := r; rfl
  | byt _ => obtain ⟨t,rfl⟩ := r; rfl
  | flt _ => obtain ⟨t,rfl⟩ := r; rfl
  | ref _ => cases r; rfl
  | ty _ => cases r; rfl
theorem RelV.inj {x y : V} {u : Value} (r : RelV x u) (q : RelV y u) : x = y := Option.some.inj (r.abs.symm.trans q.abs)
theorem Vals.inj : ∀ {xs ys : List V} {us : List Value},Vals xs us → Vals ys us → xs = ys
  | _,_,_,.nil,.nil => rfl
  | _,_,_,.cons r t,.cons r' t' => by rw [r.inj r',Vals.inj t t']
section
variable {X : Cx} {pins : List (Addr × Obj)} {σ : St} {H : Hp} {s : Shared} {a : Addr} {xs ys : List V}
theorem SqL.of {K : PySem.W.Frag} (h : H a = some (.lst xs)) : SqL K H a xs := .inl (.inl h)
theorem SqT.of {K : PySem.W.Frag} (h : H a = some (.tup xs)) : SqT K H a xs := .inl (.inl h)
theorem Inv.list (I : Inv X pins σ H s) (h : SqL X.K H a xs) : ∃ its : List Value,Vals xs its ∧ PlainL s.heap a its.toArray ∧ xs.length ≤ sizeLine := by
  rcases h with h | ⟨o,its,n,hk,hc,hd,hs,hz,r⟩
  · obtain ⟨z,its,n,r,e⟩ := h.ok I.hok
    exact ⟨its,r,⟨_,n,e,rfl,rfl,rfl⟩,z⟩
  · refine ⟨its.toList,r,⟨o,n,I.kIn a o hk,hc,hd,by simpa using hs⟩,?_⟩
    have e := r.length
    simp only [Array.length_toList] at e
    omega
theorem Inv.tuple (I : Inv X pins σ H s) (h : SqT X.K H a xs) : ∃ its : List Value,Vals xs its ∧ IsTup s.heap a its.toArray ∧ xs.length ≤ sizeLine := by
  rcases h with h | ⟨o,its,n,hk,hc,hs,hz,r⟩
  · obtain ⟨z,its,r,p⟩ := h.ok I.hok
    exact ⟨its,r,p,z⟩
  · refine ⟨its.toList,r,⟨o,I.kIn a o hk,hc,n,by simpa using hs⟩,?_⟩
    have e := r.length
    simp only [Array.length_toList] at e
    omega
theorem Inv.Jp5 (I : Inv X pins σ H s) (h : SqL X.K H a xs) (h' : SqL X.K H a ys) : xs = ys := by
  obtain ⟨its,r,⟨o,n,e,_,_,d⟩,_⟩ := I.list h
  obtain ⟨its',r',⟨o',n',e',_,_,d'⟩,_⟩ := I.list h'
  rw [e] at e'; cases e'
  rw [d] at d'
  injection d' with d1 _
  have : its = its' := by simpa using congrArg Array.toList d1
  subst this
  exact r.inj r'
theorem Inv.Jrj (I : Inv X pins σ H s) (h : SqT X.K H a xs) (h' : SqT X.K H a ys) : xs = ys := by
  obtain ⟨its,r,⟨o,e,_,n,d⟩,_⟩ := I.tuple h
  obtain ⟨its',r',⟨o',e',_,n',d'⟩,_⟩ := I.tuple h'
  rw [e] at e'; cases e'
  rw [d] at d'
  injection d' with d1 _
  have : its = its' := by simpa using congrArg Array.toList d1
  subst this
  exact r.inj r'
end

abbrev Cx.wish (X : Cx) (E : Value → Shared → Prop) : Cx := { X with xe := E }
abbrev Cx.nox (X : Cx) : Cx := X.wish fun _ _ => False
theorem Cx.Ok.wish {X : Cx} (ok : X.Ok) (E : Value → Shared → Prop) : (X.wish E).Ok :=
  ⟨ok.mod,ok.kind,ok.glob,ok.blt,ok.above,ok.inj,ok.has,ok.cab,ok.hd,ok.frames,ok.stk,ok.exf,ok.bs,ok.bsz,ok.noex,ok.exfs,ok.funs,ok.frf,ok.sy⟩
theorem Cx.Ok.Jhk {X : Cx} {E : Value → Shared → Prop} (ok : (X.wish E).Ok) : X.Ok :=
  ⟨ok.mod,ok.kind,ok.glob,ok.blt,ok.above,ok.inj,ok.has,ok.cab,ok.hd,ok.frames,ok.stk,ok.exf,ok.bs,ok.bsz,ok.noex,ok.exfs,ok.funs,ok.frf,ok.sy⟩
section
variable {X : Cx} {pins : List (Addr × Obj)} {σ : St} {H : Hp} {s : Shared} {E : Value → Shared → Prop}
theorem Inv.wish (I : Inv X pins σ H s) (E : Value → Shared → Prop) : Inv (X.wish E) pins σ H s := ⟨I.ok.wish E,I.os,I.bare,I.base,I.loc,I.cell,I.free,I.freeC,I.pin,I.hok,I.len⟩
theorem Inv.Jhk (I : Inv (X.wish E) pins σ H s) : Inv X pins σ H s := ⟨I.ok.Jhk,I.os,I.bare,I.base,I.loc,I.cell,I.free,I.freeC,I.pin,I.hok,I.len⟩
theorem SP.Jhk {D : Ends} {f : Flow} {s' : Shared} (h : SP (X.wish E) pins D f s') : SP X pins D f s' := by
  cases f with
  | next => obtain ⟨σ',H',I,q⟩ := h; exact ⟨σ',H',I.Jhk,q⟩
  | brk => obtain ⟨σ',H',I,q⟩ := h; exact ⟨σ',H',I.Jhk,q⟩
  | cont => obtain ⟨σ',H',I,q⟩ := h; exact ⟨σ',H',I.Jhk,q⟩
  | ret u => obtain ⟨v,σ',H',I,r,q⟩ := h; exact ⟨v,σ',H',I.Jhk,r,q⟩
theorem PE.nox {e : Expr} {t : TE} (h : PE X.nox e t) : PE X e t := fun pins s σ H Q I hw =>
  wpAny_mono (h pins s σ H Q (I.wish _) hw) (fun _ _ ⟨v,H',I',r,q⟩ => ⟨v,H',I'.Jhk,r,q⟩) fun _ _ z => False.elim z
theorem PT.nox {e : Expr} {t : TT} (h : PT X.nox e t) : PT X e t := fun pins s σ H Q I hw =>
  wpAny_mono (h pins s σ H Q (I.wish _) hw) (fun _ _ ⟨H',I',q⟩ => ⟨H',I'.Jhk,q⟩) fun _ _ z => False.elim z
theorem PSs.nox {st : List Stmt} {t : TS} (h : PSs X.nox st t) : PSs X st t := fun pins s σ H D I hw =>
  wpAny_mono (h pins s σ H D (I.wish _) hw) (fun _ _ q => q.Jhk) fun _ _ z => False.elim z
end

section
variable {X : Cx} {st : Stmt} {rest : List Stmt} {t u : TS} {e : Expr} {te : TE} {pos : Pos}
def JCo : TS := fun D σ H => D.nx σ H
def tSeq (t u : TS) : TS := fun D σ H => t { D with nx := u D } σ H
theorem Jx1 : PSs X [] JCo := fun _ _ σ H _ I h => wpAny_execs_nil ⟨σ,H,I,h⟩
theorem Juv (h1 : PS X st t) (h2 : PSs X rest u) : PSs X (st :: rest) (tSeq t u) := by
  intro pins s σ H D I h
  refine wpAny_execs_cons (thn (h1 pins s σ H { D with nx := u D } I h) fun f s1 q => ?_)
  cases f with
  | next =>
    obtain ⟨σ',H',I',q⟩ := q
    exact h2 pins s1 σ' H' D I' q
  | ret v => exact q
  | brk => exact q
  | cont => exact q
theorem Jx0 (h1 : PS X st t) : PSs X [st] t := by
  intro pins s σ H D I h
  refine wpAny_execs_cons (thn (h1 pins s σ H D I h) fun f s1 q => ?_)
  cases f with
  | next => exact wpAny_execs_nil q
  | ret v => exact q
  | brk => exact q
  | cont => exact q
theorem Inv.quiet {pins : List (Addr × Obj)} {σ : St} {H : Hp} {s : Shared} (I : Inv X pins σ H s) : interactive X.env = false := by simp [interactive,I.ok.kind]
def JCp (te : TE) : TS := fun D σ H => te σ H fun _ H1 => D.nx σ H1
theorem Jx3 (he : PE X e te) (hs : swapsWith e none pos.line X.env = pure false := by rfl) : PS X (.Expr e pos) (JCp te) := by
  intro pins s σ H D I h
  exact wpAny_Expr_any (thn (he pins s σ H _ I h) fun v s1 ⟨x,H1,I1,r1,q1⟩ => ⟨σ,H1,I1,q1⟩) I.quiet hs
def tRet (te : TE) : TS := fun D σ H => te σ H D.rt
theorem JAg (he : PE X e te) : PS X (.Return (some e) pos) (tRet te) := by
  intro pins s σ H D I h
  exact wpAny_Return_some (thn (he pins s σ H _ I h) fun v s1 ⟨x,H1,I1,r1,q1⟩ => ⟨x,σ,H1,I1,r1,q1⟩)
def tIfS (c : TT) (t u : TS) : TS := fun D σ H => c σ H fun b H1 => if b = true then t D σ H1 else u D σ H1
theorem JCx {c : Expr} {a b : List Stmt} {tc : TT} (hc : PT X c tc) (ha : PSs X a t) (hb : PSs X b u) : PS X (.If c a b pos) (tIfS tc t u) := by
  intro pins s σ H D I h
  refine wpAny_If (thn (hc pins s σ H _ I h) fun d s1 ⟨H1,I1,q1⟩ => ?_)
  cases d with
  | true => exact ha pins s1 σ H1 D I1 q1
  | false => exact hb pins s1 σ H1 D I1 q1
def Jzw : TS := fun _ _ _ => False
theorem Juw : PS X st Jzw := fun _ _ _ _ _ _ h => h.elim
end

abbrev TG := V → St → Hp → (St → Hp → Prop) → Prop
abbrev TGs := List V → St → Hp → (St → Hp → Prop) → Prop
def PG (X : Cx) (target : Expr) (t : TG) : Prop :=
  ∀ (pins : List (Addr × Obj)) (s : Shared) (σ : St) (H : Hp) (v : V) (u : Value) (Q : St → Hp → Prop),Inv X pins σ H s → RelV v u → t v σ H Q →
    wpAny (model X.prog X.w) X.A (assign target X.env u) (fun _ s' => ∃ σ' H',Inv X pins σ' H' s' ∧ Q σ' H') X.xe s
def PGs (X : Cx) (ts : List Expr) (t : TGs) : Prop :=
  ∀ (pins : List (Addr × Obj)) (s : Shared) (σ : St) (H : Hp) (vs : List V) (us : List Value) (Q : St → Hp → Prop),Inv X pins σ H s → Vals vs us → t vs σ H Q →
    wpAny (model X.prog X.w) X.A (assignInOrder ((assignEach ts X.env).map (·.2)) us) (fun _ s' => ∃ σ' H',Inv X pins σ' H' s' ∧ Q σ' H') X.xe s
abbrev TSet := V → V → V → Hp → (Hp → Prop) → Prop
def PSet (X : Cx) (t : TSet) : Prop :=
  ∀ (pins : List (Addr × Obj)) (s : Shared) (σ : St) (H : Hp) (o i v : V) (ov iv u : Value) (Q : Hp → Prop),Inv X pins σ H s → RelV o ov → RelV i iv → RelV v u → t o i v H Q →
    wpAny (model X.prog X.w) X.A (setItem ov iv u) (fun _ s' => ∃ H',Inv X pins σ H' s' ∧ Q H') X.xe s
section
variable {X : Cx} {pos : Pos}
def Jv2 (i : Nat) : TG := fun v σ H Q => Q (σ.set i (some v)) H
theorem Jx9 {i : Nat} {x : Str} (hN : X.N.Nodup) (hi : X.N[i]? = some x) (hx : Loc X.env.scope x) (hf : X.fn x = true ∨ X.env.scope.names.lookup x = some .local := by first | exact .inl rfl | exact .inr rfl | assumption) : PG X (.Name x pos) (Jv2 i) := by
  intro pins s σ H v u Q I r h
  exact wpAny_assign_Name (Jpm I hN hi hx r (fun s' I' => ⟨_,H,I',h⟩) hf)
def gNil : TGs := fun vs σ H Q => vs = [] ∧ Q σ H
def Jza (t : TG) (u : TGs) : TGs := fun vs σ H Q => ∃ v r,vs = v :: r ∧ t v σ H fun σ' H' => u r σ' H' Q
theorem Jx8 : PGs X [] gNil := by
  intro pins s σ H vs us Q I r h
  obtain ⟨e,h⟩ := h
  subst e
  cases r
  exact assignInOrder_nil ⟨σ,H,I,h⟩
theorem Juy {e : Expr} {es : List Expr} {t : TG} {u : TGs} (h1 : PG X e t) (h2 : PGs X es u)
    (hs : (assignEach (e :: es) X.env).map (·.2) = assign e X.env :: (assignEach es X.env).map (·.2) := by rfl) : PGs X (e :: es) (Jza t u) := by
  intro pins s σ H vs us Q I r h
  obtain ⟨v,vr,e1,h⟩ := h
  subst e1
  cases r with
  | cons r rr =>
    rw [hs]
    refine assignInOrder_cons (thn (h1 pins s σ H _ _ _ I r h) fun _ s1 ⟨σ1,H1,I1,q1⟩ => ?_)
    exact h2 pins s1 σ1 H1 _ _ Q I1 rr q1
def gTup (K : PySem.W.Frag) (n : Nat) (t : TGs) : TG := fun v σ H Q => ∃ a xs,v = .ref a ∧ SqT K H a xs ∧ xs.length = n ∧ t xs σ H Q
theorem JAj {es : List Expr} {k : Nat} {t : TGs} {n : Nat} (hc : X.calm = true) (h : PGs X es t)
    (hn : (assignEach es X.env).length = n := by rfl) (hst : (assignEach es X.env).findIdx? (·.1) = none := by rfl) : PG X (.Tuple es k pos) (gTup X.K n t) := by
  intro pins s σ H v u Q I r hw
  obtain ⟨a,xs,e1,hq,hl,hw⟩ := hw
  subst e1
  cases r
  obtain ⟨its,rv,ht,hz⟩ := I.tuple hq
  refine assign_Tuple_tuple (I.ok.hd hc) ht (by simp [hn,← hl,rv.length]) hst fun h' hx => ?_
  have I1 : Inv X pins σ H { s with heap := h' } := I.kept (t' := s.toks) fun b o e => hx b o (Nat.ne_of_lt (Heap.lt_size e)) e
  exact h pins _ σ H xs _ Q I1 (by simpa using rv) hw
def gSub (to ti : TE) (t : TSet) : TG := fun v σ H Q => to σ H fun o H1 => ti σ H1 fun i H2 => t o i v H2 fun H3 => Q σ H3
theorem JAk {o i : Expr} {to ti : TE} {t : TSet} (ho : PE X o to) (hi : PE X i ti) (hs : PSet X t)
    (ha : ∀ v,assign (.Subscript o i pos) X.env v = (do
      let ov ← holding [v] (eval o X.env)
      let iv ← holding [v,ov] (eval i X.env)
      standAt pos
      holding [v,ov,iv] (setItem ov iv v)
      release [v,ov,iv] []) := by intro _; rfl) : PG X (.Subscript o i pos) (gSub to ti t) := by
  intro pins s σ H v u Q I r h
  rw [ha]
  refine wpAny_bind (wpAny_holding (thn (ho pins s σ H _ I h) fun ov s1 ⟨x,H1,I1,r1,q1⟩ => ?_))
  refine wpAny_bind (wpAny_holding (thn (hi pins s1 σ H1 _ I1 q1) fun iv s2 ⟨y,H2,I2,r2,q2⟩ => ?_))
  refine wpAny_bind (wpAny_standAt (wpAny_bind (wpAny_holding (thn (hs pins s2 σ H2 x y v ov iv u _ I2 r1 r2 r q2) fun _ s3 ⟨H3,I3,q3⟩ => ?_))))
  exact wpAny_release ⟨σ,H3,I3,q3⟩
def tAsg (te : TE) (g : TG) : TS := fun D σ H => te σ H fun x H1 => g x σ H1 D.nx
theorem Jwh {tg e : Expr} {te : TE} {g : TG} (he : PE X e te) (hg : PG X tg g) (hs : swapsWithSole [tg] e pos.line X.env = pure false := by rfl) (hw : swappedStores [tg] e X.env = pure none := by rfl)
    (h1 : (assignEach [tg] X.env).map (·.2) = [assign tg X.env] := by rfl) : PS X (.Assign [tg] e pos) (tAsg te g) := by
  intro pins s σ H D I h
  refine wpAny_Assign_stores (thn (he pins s σ H _ I h) fun v s1 ⟨x,H1,I1,r1,q1⟩ => ?_) hs hw
  rw [h1]
  exact thn (hg pins s1 σ H1 x v _ I1 r1 q1) fun _ s2 q => q
theorem JAf {i : Nat} {x : Str} {e : Expr} {te : TE} {pos' : Pos} (hN : X.N.Nodup) (hi : X.N[i]? = some x) (hx : Loc X.env.scope x) (he : PE X e te) (hs : swapsWith e (some (.Name x pos')) pos.line X.env = pure false := by rfl) (hf : X.fn x = true ∨ X.env.scope.names.lookup x = some .local := by first | exact .inl rfl | exact .inr rfl | assumption) :
    PS X (.Assign [.Name x pos'] e pos) (tAsg te (Jv2 i)) := by
  intro pins s σ H D I h
  refine wpAny_Assign_Name (thn (he pins s σ H _ I h) fun v s1 ⟨y,H1,I1,r1,q1⟩ => ?_) hs
  exact Jpm I1 hN hi hx r1 (fun s2 I2 => ⟨_,H1,I2,q1⟩) hf
end

section
variable {X : Cx} {pos : Pos}
end


structure It where
  go : Nat → Hp → Prop
  yld : Nat → Hp → V → Hp → Prop
  stop : Nat → Hp → Prop
def FpOk (X : Cx) (pins : List (Addr × Obj)) (H : Hp) (b : Addr) : Prop :=
  H b = none ∧ b ≠ X.env.locals ∧ b ∉ X.fs ∧ (b ∈ X.ex ∨ X.s₀.heap.objs.size ≤ b) ∧ (∀ x c,X.env.cells.lookup x = some c → c ≠ b) ∧ ∀ p ∈ X.pn ++ pins,p.1 ≠ b
theorem Inv.fpOk {X : Cx} {pins : List (Addr × Obj)} {σ : St} {H H' : Hp} {s : Shared} {b : Addr} (I : Inv X pins σ H s) (hb : s.heap.objs.size ≤ b) (hn : H' b = none) : FpOk X pins H' b := by
  refine ⟨hn,Nat.ne_of_gt (Nat.lt_of_lt_of_le I.lt hb),I.nofs hb,.inr (Nat.le_trans I.sz hb),fun x c e z => ?_,fun p hp z => ?_⟩
  · obtain ⟨v,q⟩ := I.cell x c e
    exact absurd (Nat.lt_of_lt_of_le q.lt (by rw [z]; exact hb)) (Nat.lt_irrefl _)
  · exact absurd (Nat.lt_of_lt_of_le (Heap.lt_size (I.pin p hp).1) (by rw [z]; exact hb)) (Nat.lt_irrefl _)
structure Turn (P : Program) (w : World) (K : PySem.W.Frag) (tg : Expr) (J : It) (fp : List Addr) (it : Addr) (tn : Nat → Heap → Prop) : Prop where
  mem : it ∈ fp
  obj : ∀ i h,tn i h → ∀ b ∈ fp,∃ o,h.get? b = some o ∧ ∀ v,o.data ≠ .cell v
  keep : ∀ i h h',tn i h → (∀ b ∈ fp,∀ o,h.get? b = some o → h'.get? b = some o) → tn i h'
  item : ∀ (X : Cx),X.prog = P → X.w = w → X.K = K → X.calm = true → ∀ (i : Nat) (pins : List (Addr × Obj)) (s : Shared) (σ : St) (H : Hp) (E : Value → Shared → Prop),Inv X pins σ H s → (∀ b ∈ fp,FpOk X pins H b) → tn i s.heap → J.go i H →
    wpAny (model P w) X.A (pyNext (.ref it)) (fun r s1 => ∃ u,r = some u ∧
      wpAny (model P w) X.A (letOwnedTupleGo tg (.ref it) u) (fun _ s2 => ∃ x H',Inv X pins σ H' s2 ∧ RelV x u ∧ J.yld i H x H' ∧ tn (i + 1) s2.heap ∧ ∀ b ∈ fp,H' b = none) E s1) E s
  done : ∀ (X : Cx),X.prog = P → X.w = w → X.K = K → X.calm = true → ∀ (i : Nat) (pins : List (Addr × Obj)) (s : Shared) (σ : St) (H : Hp) (E : Value → Shared → Prop),Inv X pins σ H s → (∀ b ∈ fp,FpOk X pins H b) → tn i s.heap → J.stop i H →
    wpAny (model P w) X.A (pyNext (.ref it)) (fun r s1 => r = none ∧ Inv X pins σ H s1) E s
  self : ∀ (A : Around) (i : Nat) (s : Shared) (Q : Value → Shared → Prop) (E : Value → Shared → Prop),tn i s.heap → Q (.ref it) s → wpAny (model P w) A (pyIter (.ref it)) Q E s
abbrev TI := St → Hp → (It → Hp → Prop) → Prop
def PIE (X : Cx) (pins : List (Addr × Obj)) (σ : St) (tg : Expr) (R : It → Hp → Prop) (itv : Value) (s2 : Shared) : Prop :=
  ∃ (it : Addr) (fp : List Addr) (tn : Nat → Heap → Prop) (J : It) (H' : Hp),itv = .ref it ∧ Inv X pins σ H' s2 ∧ Turn X.prog X.w X.K tg J fp it tn ∧ tn 0 s2.heap ∧ (∀ b ∈ fp,FpOk X pins H' b) ∧ R J H'
def PI (X : Cx) (tg iter : Expr) (wi : TI) : Prop :=
  ∀ (pins : List (Addr × Obj)) (s : Shared) (σ : St) (H : Hp) (R : It → Hp → Prop),Inv X pins σ H s → wi σ H R →
    wpAny (model X.prog X.w) X.A (eval iter X.env) (fun v s1 => wpAny (model X.prog X.w) X.A (pyIter v) (PIE X pins σ tg R) X.xe s1) X.xe s

theorem Jy9 {M : Model} {A : Around} {E : Value → Shared → Prop} {s : Shared} {tg : Expr} {it : Addr} {u : Value} {o : Obj} {n : String} {vs : Array Value} {Q : Unit → Shared → Prop} (ho : s.heap.get? it = some o) (hc : o.cls = .type n) (hd : o.data = .fields vs)
    (hn : ["enumerate","zip","dict_itemiterator","dict_reverseitemiterator","odict_iterator","itertools.zip_longest","itertools.pairwise"].contains n = false) (hQ : Q () s) : wpAny M A (letOwnedTupleGo tg (.ref it) u) Q E s := by
  unfold letOwnedTupleGo
  cases tg <;> first
    | exact wpAny_pure hQ
    | (cases u <;> first
        | exact wpAny_pure hQ
        | (refine wpAny_bind (wpAny_load ho ?_)
           rw [hc,hd]
           show wpAny M A (if (["enumerate","zip","dict_itemiterator","dict_reverseitemiterator","odict_iterator","itertools.zip_longest","itertools.pairwise"].contains n && vs[0]? == some (rawInt _)) = true then _ else _) Q E s
           rw [if_neg (by intro h; rw [hn,Bool.false_and] at h; cases h)]
           exact wpAny_pure hQ))

def Itl (K : PySem.W.Frag) (a : Addr) : It :=
  ⟨fun i H => ∃ xs x,SqL K H a xs ∧ xs[i]? = some x,fun i H x H' => H' = H ∧ ∀ xs,SqL K H a xs → xs[i]? = some x,fun i H => ∃ xs,SqL K H a xs ∧ xs.length ≤ i⟩
def Itt (K : PySem.W.Frag) (a : Addr) : It :=
  ⟨fun i H => ∃ xs x,SqT K H a xs ∧ xs[i]? = some x,fun i H x H' => H' = H ∧ ∀ xs,SqT K H a xs → xs[i]? = some x,fun i H => ∃ xs,SqT K H a xs ∧ xs.length ≤ i⟩
def Itr (lo : Int) (n : Nat) : It := ⟨fun i _ => i < n,fun i H x H' => H' = H ∧ x = .int (lo + i),fun i _ => n ≤ i⟩
theorem Jrh {P : Program} {w : World} {K : PySem.W.Frag} {tg : Expr} (a it : Addr) : Turn P w K tg (Itl K a) [it] it (fun i h => h.IsListIter it a i) where
  mem := by simp
  obj := fun i h st b hb => by
    have e : b = it := by simpa using hb
    subst e
    obtain ⟨o,e,c,d⟩ := st
    exact ⟨o,e,fun v z => by rw [d] at z; cases z⟩
  keep := fun i h h' st k => st.at fun o e => k it (by simp) o e
  item := by
    intro X hP hw hK hc i pins s σ H E I hf st hg
    subst hP hw hK
    obtain ⟨xs,x,hq,hx⟩ := hg
    obtain ⟨its,rv,p,hz⟩ := I.list hq
    obtain ⟨u,hu,ru⟩ := rv.get hx
    obtain ⟨f0,f1,f2,f3,f4,f5⟩ := hf it (by simp)
    refine wpAny_pyNext_list_item st p.isList (x := u) (by simpa using hu) fun h' st' sb => ?_
    have I1 : Inv X pins σ H { s with heap := h' } := I.turned (t' := s.toks) (fun b o hb e => (sb.2 b hb).trans e) f0 f1 f3 f4 f5
    obtain ⟨o,e,c,d⟩ := id st'
    exact ⟨u,rfl,Jy9 (s := { s with heap := h' }) e c d (by decide) ⟨x,H,I1,ru,⟨rfl,fun ys hy => by rw [I.Jp5 hy hq]; exact hx⟩,st',fun b hb => (hf b hb).1⟩⟩
  done := by
    intro X hP hw hK hc i pins s σ H E I hf st hg
    subst hP hw hK
    obtain ⟨xs,hq,hx⟩ := hg
    obtain ⟨its,rv,p,hz⟩ := I.list hq
    obtain ⟨f0,f1,f2,f3,f4,f5⟩ := hf it (by simp)
    have hl := rv.length
    exact wpAny_pyNext_list_end (I.ok.hd hc) st p.isList (by simp; omega) fun h' eb => ⟨rfl,I.turned (t' := s.toks) (fun b o hb e => eb b o hb e) f0 f1 f3 f4 f5⟩
  self := fun _ _ _ _ _ st h => wpAny_pyIter_listiter st h
theorem Jqn {P : Program} {w : World} {K : PySem.W.Frag} {tg : Expr} (a it : Addr) : Turn P w K tg (Itt K a) [it] it (fun i h => h.IsTupleIter it a i) where
  mem := by simp
  obj := fun i h st b hb => by
    have e : b = it := by simpa using hb
    subst e
    obtain ⟨o,e,c,d⟩ := st
    exact ⟨o,e,fun v z => by rw [d] at z; cases z⟩
  keep := fun i h h' st k => st.at fun o e => k it (by simp) o e
  item := by
    intro X hP hw hK hc i pins s σ H E I hf st hg
    subst hP hw hK
    obtain ⟨xs,x,hq,hx⟩ := hg
    obtain ⟨its,rv,p,hz⟩ := I.tuple hq
    obtain ⟨u,hu,ru⟩ := rv.get hx
    obtain ⟨f0,f1,f2,f3,f4,f5⟩ := hf it (by simp)
    refine wpAny_pyNext_tuple_item st (show s.heap.IsTuple a its.toArray from p) (x := u) (by simpa using hu) fun h' st' sb => ?_
    have I1 : Inv X pins σ H { s with heap := h' } := I.turned (t' := s.toks) (fun b o hb e => (sb.2 b hb).trans e) f0 f1 f3 f4 f5
    obtain ⟨o,e,c,d⟩ := id st'
    exact ⟨u,rfl,Jy9 (s := { s with heap := h' }) e c d (by decide) ⟨x,H,I1,ru,⟨rfl,fun ys hy => by rw [I.Jrj hy hq]; exact hx⟩,st',fun b hb => (hf b hb).1⟩⟩
  done := by
    intro X hP hw hK hc i pins s σ H E I hf st hg
    subst hP hw hK
    obtain ⟨xs,hq,hx⟩ := hg
    obtain ⟨its,rv,p,hz⟩ := I.tuple hq
    obtain ⟨f0,f1,f2,f3,f4,f5⟩ := hf it (by simp)
    have hl := rv.length
    exact wpAny_pyNext_tuple_end (I.ok.hd hc) st (show s.heap.IsTuple a its.toArray from p) (by simp; omega) fun h' eb => ⟨rfl,I.turned (t' := s.toks) (fun b o hb e => eb b o hb e) f0 f1 f3 f4 f5⟩
  self := fun _ _ _ _ _ st h => wpAny_pyIter_tupleiter st h
theorem Jqo {P : Program} {w : World} {K : PySem.W.Frag} {tg : Expr} (it : Addr) (lo : Int) (n : Nat) : Turn P w K tg (Itr lo n) [it] it (fun i h => IsRangeIter h it (lo + (i : Nat) * 1) ((n : Int) - (i : Nat)) 1) where
  mem := by simp
  obj := fun i h st b hb => by
    have e : b = it := by simpa using hb
    subst e
    exact ⟨_,st,fun v z => by
      have z' : Data.fields _ = Data.cell v := z
      cases z'⟩
  keep := fun i h h' st k => k it (by simp) _ st
  item := by
    intro X hP hw hK hc i pins s σ H E I hf st hg
    subst hP hw hK
    obtain ⟨f0,f1,f2,f3,f4,f5⟩ := hf it (by simp)
    have W := Walks.range (prog := X.prog) (w := X.w) (I.ok.hd hc) it lo 1 n
    refine W.item i s _ _ hg st fun v h' tk hv st' kk => ?_
    obtain ⟨t,rfl⟩ := hv
    have I1 : Inv X pins σ H { s with heap := h',toks := tk } := I.turned (fun b o hb e => kk b o (by simpa using hb) e) f0 f1 f3 f4 f5
    refine ⟨_,rfl,Jy9 (s := { s with heap := h',toks := tk }) (n := "range_iterator") st' rfl rfl (by decide) ⟨.int (lo + i),H,I1,⟨t,?_⟩,⟨rfl,rfl⟩,st',fun b hb => (hf b hb).1⟩⟩
    rw [Int.mul_one]
  done := by
    intro X hP hw hK hc i pins s σ H E I hf st hg
    subst hP hw hK
    obtain ⟨f0,f1,f2,f3,f4,f5⟩ := hf it (by simp)
    exact wpAny_pyNext_range_end (I.ok.hd hc) st (by have : n ≤ i := hg; omega) fun h' eb => ⟨rfl,I.turned (t' := s.toks) (fun b o hb e => eb b o hb e) f0 f1 f3 f4 f5⟩
  self := fun _ _ _ _ _ st h => wpAny_pyIter_rangeiter st h
end L2

namespace L2
open PySem PySem.Spec PyProof.Rows
section
variable {X : Cx} {tg : Expr}
theorem Jus {pins : List (Addr × Obj)} {σ : St} {H : Hp} {s : Shared} {R : It → Hp → Prop} {E : Value → Shared → Prop} {lo hi : Int} {t u v : Tok} {tk : Nat} (I : Inv X pins σ H s) (h1 : -(2 ^ 62) ≤ lo) (h2 : lo < 2 ^ 62) (h3 : -(2 ^ 62) ≤ hi) (h4 : hi < 2 ^ 62)
    (q : R (Itr lo (hi - lo).toNat) H) : wpAny (model X.prog X.w) X.A (pyIter (.ref s.heap.objs.size)) (PIE X pins σ tg R) E { s with heap := s.heap.push { cls := .type "range",data := .fields #[.int lo t,.int hi u,.int 1 v] },toks := tk } := by
  refine wpAny_pyIter_range (IsRange.new ..) (small_one h1 h2 h3 h4) ?_
  have I1 : Inv X pins σ H { s with heap := s.heap.push { cls := .type "range",data := .fields #[.int lo t,.int hi u,.int 1 v] },toks := tk } := I.kept fun b o e => Heap.get?_push_of_some _ e
  refine ⟨(s.heap.push { cls := .type "range",data := .fields #[.int lo t,.int hi u,.int 1 v] }).objs.size,[(s.heap.push { cls := .type "range",data := .fields #[.int lo t,.int hi u,.int 1 v] }).objs.size],_,_,H,rfl,
    I1.kept (t' := tk) fun b o e => Heap.get?_push_of_some _ e,Jqo _ lo (hi - lo).toNat,?_,fun b hb => ?_,q⟩
  · have e1 : lo + ((0 : Nat) : Int) * 1 = lo := by simp
    have e2 : (((hi - lo).toNat : Nat) : Int) - ((0 : Nat) : Int) = Builtin.Range.rangeSize lo hi 1 := by rw [rangeSize_one]; split <;> omega
    show IsRangeIter _ _ (lo + ((0 : Nat) : Int) * 1) ((((hi - lo).toNat : Nat) : Int) - ((0 : Nat) : Int)) 1
    rw [e1,e2]
    exact Heap.get?_push_size _ rfl
  · have e : b = (s.heap.push { cls := .type "range",data := .fields #[.int lo t,.int hi u,.int 1 v] }).objs.size := by simpa using hb
    subst e
    exact I1.fpOk (Nat.le_refl _) (I1.hok.fresh (Nat.le_refl _))
def JDs (ta : TA) : TI := fun σ H R => ta σ H fun vs H1 => ∃ j : Int,vs = [.int j] ∧ -(2 ^ 62) ≤ j ∧ j < 2 ^ 62 ∧ R (Itr 0 j.toNat) H1
theorem Jsb {a : Expr} {ta : TA} {p pos : Pos} (hg : Gl X "range") (hm : X.mg "range" = none) (ha : PA X [a] ta) (hs : starEach [a] X.env = [(false,eval a X.env)] := by rfl) : PI X tg (.Call (.Name "range" p) [a] [] pos) (JDs ta) := by
  intro pins s σ H R I h
  refine Call_ (Jka I hg hm boot_range (PyProof.Rows.callWith_type1 (thn (ha pos pins s σ H _ I h) fun us s1 ⟨vs,H1,I1,r1,q1⟩ => ?_) hs rfl))
  obtain ⟨j,e,q1,q2,q⟩ := q1
  subst e
  cases r1 with
  | cons r rr =>
    cases rr
    obtain ⟨t,rfl⟩ := r
    exact call_range_1 (Jus I1 (by omega) (by omega) q1 q2 (by simpa using q))
def tFor (wi : TI) (g : TG) (tb : TS) : TS := fun D σ H => wi σ H fun J H1 => ∃ W : Nat → Nat → St → Hp → Prop,(∃ m,W 0 m σ H1) ∧ ∀ i m σ H,W i m σ H →
  (J.stop i H ∧ D.nx σ H) ∨ (J.go i H ∧ ∃ N : St → Hp → Prop,(∀ σ' H',N σ' H' → ∃ m',m' < m ∧ W (i + 1) m' σ' H') ∧ ∀ x H',J.yld i H x H' → g x σ H' fun σ2 H2 => tb { D with nx := N,ct := N,bk := D.nx } σ2 H2)
def Jjc (fp : List Addr) (h : Heap) : List (Addr × Obj) := fp.filterMap fun b => (h.get? b).map fun o => (b,o)
theorem Jhe {fp : List Addr} {h : Heap} {b : Addr} {o : Obj} (hb : b ∈ fp) (e : h.get? b = some o) : (b,o) ∈ Jjc fp h := List.mem_filterMap.mpr ⟨b,hb,by rw [e]; rfl⟩
theorem Jno {fp : List Addr} {h : Heap} {p : Addr × Obj} (hp : p ∈ Jjc fp h) : p.1 ∈ fp ∧ h.get? p.1 = some p.2 := by
  obtain ⟨b,hb,e⟩ := List.mem_filterMap.mp hp
  cases q : h.get? b with
  | none => rw [q] at e; cases e
  | some o =>
    rw [q] at e
    have e' : (b,o) = p := Option.some.inj e
    subst e'
    exact ⟨hb,q⟩
theorem Inv.pinned {pins : List (Addr × Obj)} {σ : St} {H : Hp} {s : Shared} {fp : List Addr} (I : Inv X pins σ H s) (hf : ∀ b ∈ fp,FpOk X pins H b) (ho : ∀ b ∈ fp,∃ o,s.heap.get? b = some o ∧ ∀ v,o.data ≠ .cell v) : Inv X (pins ++ Jjc fp s.heap) σ H s :=
  I.Jl7 fun p hp => (List.mem_append.mp hp).elim (fun z => I.pin p (List.mem_append_right _ z)) fun z => by
    obtain ⟨hb,e⟩ := Jno z
    obtain ⟨f0,f1,f2,_⟩ := hf p.1 hb
    obtain ⟨o,e',d⟩ := ho p.1 hb
    rw [e] at e'; cases e'
    exact ⟨e,f0,f1,f2,d⟩
theorem Inv.Jjs {pins pl : List (Addr × Obj)} {σ : St} {H : Hp} {s : Shared} (I : Inv X (pins ++ pl) σ H s) : Inv X pins σ H s := I.Jl7 fun p hp => I.pin p (List.mem_append_right _ (List.mem_append_left _ hp))
theorem JAh {iter : Expr} {body : List Stmt} {wi : TI} {g : TG} {tb : TS} {pos : Pos} (hp : PassesOwn (model X.prog X.w) X.A X.env X.xe) (hc : X.calm = true) (hi : PI X tg iter wi) (hg : PG X tg g) (hb : PSs X body tb)
    (hs : ∀ x,foldedSetIterable iter X.env x = pure x := by intro _; rfl) : PS X (.For tg iter body [] pos) (tFor wi g tb) := by
  intro pins s σ H D I h
  refine wpAny_For (thn (hi pins s σ H _ I h) fun v s1 h1 => thn h1 fun itv s2 h2 => ?_) hs
  obtain ⟨it,fp,tn,J,H2,e,I2,T,st2,f2,W,⟨m0,w0⟩,turn⟩ := h2
  subst e
  -- what stays true of the iterator's objects through the loop
  have stat : ∀ {H' : Hp},(∀ b ∈ fp,H' b = none) → ∀ b ∈ fp,FpOk X pins H' b := fun hn b hb => ⟨hn b hb,(f2 b hb).2⟩
  refine codeAny_forLoop_any (fun n s' => ∃ i σ' H',Inv X pins σ' H' s' ∧ tn i s'.heap ∧ (∀ b ∈ fp,H' b = none) ∧ W i n σ' H') ?_ m0 ⟨0,σ,H2,I2,st2,fun b hb => (f2 b hb).1,w0⟩
  rintro n s3 ⟨i,σ3,H3,I3,st3,fr3,w3⟩
  rcases turn i n σ3 H3 w3 with ⟨stop,qn⟩ | ⟨go,N,hN,step⟩
  · refine wpAny_passesOwn hp (thn (T.done X rfl rfl rfl hc i pins s3 σ3 H3 X.xe I3 (stat fr3) st3 stop) fun r s4 ⟨hr,I4⟩ => ?_)
    subst hr
    exact wpAny_execs_nil ⟨σ3,H3,I4,qn⟩
  · refine wpAny_passesOwn hp (thn (T.item X rfl rfl rfl hc i pins s3 σ3 H3 X.xe I3 (stat fr3) st3 go) fun r s4 ⟨u,hr,h4⟩ => ?_)
    subst hr
    refine wpAny_passesOwn hp (thn h4 fun _ s5 ⟨x,H5,I5,r5,y5,st5,fr5⟩ => ?_)
    have I5' := I5.pinned (stat fr5) (T.obj _ _ st5)
    refine wpAny_passesOwn hp (thn (hg _ s5 σ3 H5 x u _ I5' r5 (step x H5 y5)) fun _ s6 ⟨σ6,H6,I6,q6⟩ => ?_)
    refine wpAny_passesOwn hp (thn (hb _ s6 σ6 H6 _ I6 q6) fun f s7 q7 => ?_)
    have again : ∀ {σ7 : St} {H7 : Hp},Inv X (pins ++ Jjc fp s5.heap) σ7 H7 s7 → N σ7 H7 → ∃ m,m < n ∧ ∃ i σ' H',Inv X pins σ' H' s7 ∧ tn i s7.heap ∧ (∀ b ∈ fp,H' b = none) ∧ W i m σ' H' := fun {σ7 H7} I7 n7 => by
      obtain ⟨m',hm,w7⟩ := hN σ7 H7 n7
      refine ⟨m',hm,i + 1,σ7,H7,I7.Jjs,T.keep _ _ _ st5 fun b hb o e => (I7.pin (b,o) (List.mem_append_right _ (List.mem_append_right _ (Jhe hb e)))).1,fun b hb => ?_,w7⟩
      obtain ⟨o,e,d⟩ := T.obj _ _ st5 b hb
      exact (I7.pin (b,o) (List.mem_append_right _ (List.mem_append_right _ (Jhe hb e)))).2.1
    cases f with
    | next => obtain ⟨σ7,H7,I7,n7⟩ := q7; exact again I7 n7
    | cont => obtain ⟨σ7,H7,I7,n7⟩ := q7; exact again I7 n7
    | brk => obtain ⟨σ7,H7,I7,q7⟩ := q7; exact ⟨σ7,H7,I7.Jjs,q7⟩
    | ret v => obtain ⟨x7,σ7,H7,I7,r7,q7⟩ := q7; exact ⟨x7,σ7,H7,I7.Jjs,r7,q7⟩
end

end L2

namespace L2
open PySem PySem.Spec PyProof.Rows

abbrev R2 := V → V → Hp → VK → Prop
def OpR (X : Cx) (f : Value → Value → Sem Value) (r : R2) : Prop :=
  ∀ (pins : List (Addr × Obj)) (s : Shared) (σ : St) (H : Hp) (x y : V) (v u : Value) (Q : VK),Inv X pins σ H s → RelV x v → RelV y u → r x y H Q →
    wpAny (model X.prog X.w) X.A (f v u) (EP X pins σ Q) X.xe s
def UnR (X : Cx) (f : Value → Sem Value) (r : V → Hp → VK → Prop) : Prop :=
  ∀ (pins : List (Addr × Obj)) (s : Shared) (σ : St) (H : Hp) (x : V) (v : Value) (Q : VK),Inv X pins σ H s → RelV x v → r x H Q →
    wpAny (model X.prog X.w) X.A (f v) (EP X pins σ Q) X.xe s
def Jdp (X : Cx) (f : Value) (r : List V → Hp → VK → Prop) : Prop :=
  ∀ (pins : List (Addr × Obj)) (s : Shared) (σ : St) (H : Hp) (xs : List V) (us : List Value) (Q : VK),Inv X pins σ H s → Vals xs us → r xs H Q →
    wpAny (model X.prog X.w) X.A (call f us) (EP X pins σ Q) X.xe s
def tOp (r : R2) (ta tb : TE) : TE := fun σ H Q => ta σ H fun x H1 => tb σ H1 fun y H2 => r x y H2 Q
def tUn (r : V → Hp → VK → Prop) (ta : TE) : TE := fun σ H Q => ta σ H fun x H1 => r x H1 Q
def rI (C : Int → Int → Prop) (g : Int → Int → V) : R2 := fun x y H Q => ∃ i j,x = .int i ∧ y = .int j ∧ C i j ∧ Q (g i j) H
def rI0 (g : Int → Int → V) : R2 := fun x y H Q => ∃ i j,x = .int i ∧ y = .int j ∧ Q (g i j) H
def rU (g : Int → V) : V → Hp → VK → Prop := fun x H Q => ∃ i,x = .int i ∧ Q (g i) H

section
variable {X : Cx} {a b c : Expr} {ta tb tc : TE} {pos : Pos}

theorem binT (ha : PE X a ta) (hb : PE X b tb) {pins : List (Addr × Obj)} {s : Shared} {σ : St} {H : Hp} {R : V → V → Hp → Prop} (I : Inv X pins σ H s)
    (h : ta σ H fun x H1 => tb σ H1 fun y H2 => R x y H2) {Q : Value → Shared → Prop} {f : Value → Value → Sem Value}
    (hf : ∀ v u s2 x y H2,Inv X pins σ H2 s2 → RelV x v → RelV y u → R x y H2 → wpAny (model X.prog X.w) X.A (f v u) Q X.xe s2) :
    wpAny (model X.prog X.w) X.A (eval a X.env) (fun v s₁ => wpAny (model X.prog X.w) X.A (eval b X.env) (fun u s₂ => wpAny (model X.prog X.w) X.A (f v u) Q X.xe s₂) X.xe s₁) X.xe s := by
  refine thn (ha pins s σ H _ I h) fun v s1 ⟨x,H1,I1,r1,q1⟩ => ?_
  refine thn (hb pins s1 σ H1 _ I1 q1) fun u s2 ⟨y,H2,I2,r2,q2⟩ => ?_
  exact hf v u s2 x y H2 I2 r1 r2 q2

theorem JCz {op : Operator} {r : R2} (ho : OpR X (binaryOp op) r) (ha : PE X a ta) (hb : PE X b tb) : PE X (.BinOp a op b pos) (tOp r ta tb) := by
  intro pins s σ H Q I h
  exact wpAny_BinOp (binT ha hb I h fun v u s2 x y H2 I2 rx ry q => ho pins s2 σ H2 x y v u Q I2 rx ry q)
theorem JCy {op : UnaryOp} {r : V → Hp → VK → Prop} (ho : UnR X (unaryOp op) r) (ha : PE X a ta) : PE X (.UnaryOp op a pos) (tUn r ta) := by
  intro pins s σ H Q I h
  exact UnaryOp_ (thn (ha pins s σ H _ I h) fun v s1 ⟨x,H1,I1,r1,q1⟩ => ho pins s1 σ H1 x v Q I1 r1 q1)
theorem opI {f : Value → Value → Sem Value} {C : Int → Int → Prop} {g : Int → Int → Int}
    (rule : ∀ (i j : Int) (t u : Tok) (s : Shared) (Q : Value → Shared → Prop) (E : Value → Shared → Prop),C i j → Q (.int (g i j) s.toks) { s with toks := s.toks + 1 } → wpAny (model X.prog X.w) X.A (f (.int i t) (.int j u)) Q E s) :
    OpR X f (rI C fun i j => .int (g i j)) := by
  intro pins s σ H x y v u Q I rx ry h
  obtain ⟨i,j,rfl,rfl,hc,q⟩ := h
  obtain ⟨t,rfl⟩ := rx
  obtain ⟨t',rfl⟩ := ry
  exact rule i j t t' s _ _ hc ⟨.int (g i j),H,I.tok _,⟨_,rfl⟩,q⟩
theorem opI0 {f : Value → Value → Sem Value} {g : Int → Int → Int}
    (rule : ∀ (i j : Int) (t u : Tok) (s : Shared) (Q : Value → Shared → Prop) (E : Value → Shared → Prop),Q (.int (g i j) s.toks) { s with toks := s.toks + 1 } → wpAny (model X.prog X.w) X.A (f (.int i t) (.int j u)) Q E s) :
    OpR X f (rI0 fun i j => .int (g i j)) := by
  intro pins s σ H x y v u Q I rx ry h
  obtain ⟨i,j,rfl,rfl,q⟩ := h
  obtain ⟨t,rfl⟩ := rx
  obtain ⟨t',rfl⟩ := ry
  exact rule i j t t' s _ _ ⟨.int (g i j),H,I.tok _,⟨_,rfl⟩,q⟩
theorem opB0 {f : Value → Value → Sem Value} {g : Int → Int → Bool}
    (rule : ∀ (i j : Int) (t u : Tok) (s : Shared) (Q : Value → Shared → Prop) (E : Value → Shared → Prop),Q (.bool (g i j)) s → wpAny (model X.prog X.w) X.A (f (.int i t) (.int j u)) Q E s) :
    OpR X f (rI0 fun i j => .bl (g i j)) := by
  intro pins s σ H x y v u Q I rx ry h
  obtain ⟨i,j,rfl,rfl,q⟩ := h
  obtain ⟨t,rfl⟩ := rx
  obtain ⟨t',rfl⟩ := ry
  exact rule i j t t' s _ _ ⟨.bl (g i j),H,I,rfl,q⟩

def CPow (i j : Int) : Prop := 0 ≤ j ∧ j ≤ 1000000 ∧ i.natAbs < 2 ^ 64
def CMul (i j : Int) : Prop := (-(2 ^ 64) < i ∧ i < 2 ^ 64) ∨ (-(2 ^ 64) < j ∧ j < 2 ^ 64)
theorem CMul.ok {i j : Int} (h : CMul i j) : IntMulOk i j := by
  rcases h with ⟨h1,h2⟩ | ⟨h1,h2⟩
  · exact .of_left (intBits_le_64 h1 h2)
  · exact .of_right (intBits_le_64 h1 h2)
theorem JA1 : OpR X (binaryOp .Add) (rI0 fun i j => .int (i + j)) := opI0 fun _ _ _ _ _ _ _ q => add_int q
theorem Jh9 : OpR X (binaryOp .Sub) (rI0 fun i j => .int (i - j)) := opI0 fun _ _ _ _ _ _ _ q => sub_int q
theorem JAu : OpR X (binaryOp .Mult) (rI CMul fun i j => .int (i * j)) := opI fun _ _ _ _ _ _ _ hc q => mul_int q hc.ok
theorem Jj5 : OpR X (binaryOp .Mod) (rI (fun _ j => 0 < j) fun i j => .int (i % j)) := opI fun i j _ _ _ _ _ hc q => by
  have h1 : (0 : Int) < j := hc
  exact mod_int' (by omega) (by rw [Int.fmod_eq_emod_of_nonneg i (by omega)]; exact q)
theorem Jia : OpR X (binaryOp .Pow) (rI CPow fun i j => .int (i ^ j.toNat)) := opI fun _ _ _ _ _ _ _ hc q => pow_int_small hc.1 hc.2.1 hc.2.2 q
theorem unI {f : Value → Sem Value} {g : Int → Int}
    (rule : ∀ (i : Int) (t : Tok) (s : Shared) (Q : Value → Shared → Prop) (E : Value → Shared → Prop),Q (.int (g i) s.toks) { s with toks := s.toks + 1 } → wpAny (model X.prog X.w) X.A (f (.int i t)) Q E s) :
    UnR X f (rU fun i => .int (g i)) := by
  intro pins s σ H x v Q I rx h
  obtain ⟨i,rfl,q⟩ := h
  obtain ⟨t,rfl⟩ := rx
  exact rule i t s _ _ ⟨.int (g i),H,I.tok _,⟨_,rfl⟩,q⟩
theorem Jwc : UnR X (unaryOp .USub) (rU fun i => .int (-i)) := unI fun _ _ _ _ _ q => neg_int q
end

def scal : V → V → Bool
  | .non,.non => true | .non,.int _ => true | .int _,.non => true | .non,.bl _ => true | .bl _,.non => true | .non,.str _ => true | .str _,.non => true
  | .int _,.int _ => true | .bl _,.bl _ => true | .str _,.str _ => true | .byt _,.byt _ => true
  | .int _,.str _ => true | .str _,.int _ => true | .bl _,.str _ => true | .str _,.bl _ => true
  | _,_ => false
def rEq : R2 := fun x y H Q => scal x y = true ∧ Q (.bl (decide (x = y))) H
def rNe : R2 := fun x y H Q => scal x y = true ∧ Q (.bl (!decide (x = y))) H

theorem Jtf {i j : Int} : decide (V.int i = V.int j) = (i == j) := by
  rw [Bool.eq_iff_iff]
  simp
theorem Jw1 {i j : Bool} : decide (V.bl i = V.bl j) = (i == j) := by
  rw [Bool.eq_iff_iff]
  simp
theorem Jte {i j : Str} : decide (V.str i = V.str j) = (i == j) := by
  rw [Bool.eq_iff_iff]
  simp
theorem Jtg {i j : Array UInt8} : decide (V.byt i = V.byt j) = (i.toList == j.toList) := by
  rw [Bool.eq_iff_iff]
  cases i
  cases j
  simp

section
variable {X : Cx} {a b c : Expr} {ta tb tc : TE} {pos : Pos}
theorem Jcj {pins : List (Addr × Obj)} {σ : St} {H : Hp} {s : Shared} {Q : VK} {k k' : Bool} (I : Inv X pins σ H s) (q : Q (.bl k) H) (e : k = k') : EP X pins σ Q (.bool k') s := by
  subst e
  exact ⟨.bl k,H,I,rfl,q⟩
theorem JC6 : OpR X (compareOp .Eq) rEq := by
  intro pins s σ H x y v u Q I rx ry h
  obtain ⟨hs,q⟩ := h
  cases x with
  | non =>
    cases rx
    cases y with
    | non => cases ry; exact PySem.EqNone.eq_none_none (Jcj I q (by simp))
    | bl j => cases ry; exact PySem.EqNone.eq_none_bool (Jcj I q (by simp))
    | int j => obtain ⟨t',rfl⟩ := ry; exact PySem.EqNone.eq_none_int (Jcj I q (by simp))
    | str j => obtain ⟨t',rfl⟩ := ry; exact PySem.EqNone.eq_none_str (Jcj I q (by simp))
    | _ => exact absurd (show false = true from hs) Bool.false_ne_true
  | bl i =>
    cases rx
    cases y with
    | non => cases ry; exact PySem.EqNone.eq_bool_none (Jcj I q (by simp))
    | bl j => cases ry; exact eq_bool (Jcj I q Jw1)
    | str j => obtain ⟨t',rfl⟩ := ry; exact PySem.EqMixed.eq_bool_str (Jcj I q (by simp))
    | _ => exact absurd (show false = true from hs) Bool.false_ne_true
  | int i =>
    obtain ⟨t,rfl⟩ := rx
    cases y with
    | non => cases ry; exact PySem.EqNone.eq_int_none (Jcj I q (by simp))
    | int j => obtain ⟨t',rfl⟩ := ry; exact eq_int (Jcj I q Jtf)
    | str j => obtain ⟨t',rfl⟩ := ry; exact PySem.EqMixed.eq_int_str (Jcj I q (by simp))
    | _ => exact absurd (show false = true from hs) Bool.false_ne_true
  | str i =>
    obtain ⟨t,rfl⟩ := rx
    cases y with
    | non => cases ry; exact PySem.EqNone.eq_str_none (Jcj I q (by simp))
    | bl j => cases ry; exact PySem.EqMixed.eq_str_bool (Jcj I q (by simp))
    | int j => obtain ⟨t',rfl⟩ := ry; exact PySem.EqMixed.eq_str_int (Jcj I q (by simp))
    | str j => obtain ⟨t',rfl⟩ := ry; exact eq_str (Jcj I q Jte)
    | _ => exact absurd (show false = true from hs) Bool.false_ne_true
  | byt i =>
    obtain ⟨t,rfl⟩ := rx
    cases y with
    | byt j => obtain ⟨t',rfl⟩ := ry; exact PySem.W.eq_bytes (Jcj I q Jtg)
    | _ => exact absurd (show false = true from hs) Bool.false_ne_true
  | _ => cases y <;> exact absurd (show false = true from hs) Bool.false_ne_true
theorem JC5 : OpR X (compareOp .NotEq) rNe := by
  intro pins s σ H x y v u Q I rx ry h
  obtain ⟨hs,q⟩ := h
  cases x with
  | non =>
    cases rx
    cases y with
    | non => cases ry; exact PySem.EqNone.ne_none_none (Jcj I q (by simp))
    | bl j => cases ry; exact PySem.EqNone.ne_none_bool (Jcj I q (by simp))
    | int j => obtain ⟨t',rfl⟩ := ry; exact PySem.EqNone.ne_none_int (Jcj I q (by simp))
    | str j => obtain ⟨t',rfl⟩ := ry; exact PySem.EqNone.ne_none_str (Jcj I q (by simp))
    | _ => exact absurd (show false = true from hs) Bool.false_ne_true
  | bl i =>
    cases rx
    cases y with
    | non => cases ry; exact PySem.EqNone.ne_bool_none (Jcj I q (by simp))
    | bl j => cases ry; exact ne_bool (Jcj I q (congrArg not Jw1))
    | str j => obtain ⟨t',rfl⟩ := ry; exact PySem.EqMixed.ne_bool_str (Jcj I q (by simp))
    | _ => exact absurd (show false = true from hs) Bool.false_ne_true
  | int i =>
    obtain ⟨t,rfl⟩ := rx
    cases y with
    | non => cases ry; exact PySem.EqNone.ne_int_none (Jcj I q (by simp))
    | int j => obtain ⟨t',rfl⟩ := ry; exact ne_int (Jcj I q (congrArg not Jtf))
    | str j => obtain ⟨t',rfl⟩ := ry; exact PySem.EqMixed.ne_int_str (Jcj I q (by simp))
    | _ => exact absurd (show false = true from hs) Bool.false_ne_true
  | str i =>
    obtain ⟨t,rfl⟩ := rx
    cases y with
    | non => cases ry; exact PySem.EqNone.ne_str_none (Jcj I q (by simp))
    | bl j => cases ry; exact PySem.EqMixed.ne_str_bool (Jcj I q (by simp))
    | int j => obtain ⟨t',rfl⟩ := ry; exact PySem.EqMixed.ne_str_int (Jcj I q (by simp))
    | str j => obtain ⟨t',rfl⟩ := ry; exact ne_str (Jcj I q (congrArg not Jte))
    | _ => exact absurd (show false = true from hs) Bool.false_ne_true
  | byt i =>
    obtain ⟨t,rfl⟩ := rx
    cases y with
    | byt j => obtain ⟨t',rfl⟩ := ry; exact PySem.W.ne_bytes (Jcj I q (congrArg not Jtg))
    | _ => exact absurd (show false = true from hs) Bool.false_ne_true
  | _ => cases y <;> exact absurd (show false = true from hs) Bool.false_ne_true

theorem Jse : OpR X (compareOp .Lt) (rI0 fun i j => .bl (decide (i < j))) := opB0 fun _ _ _ _ _ _ _ q => lt_int q
theorem JAw : OpR X (compareOp .LtE) (rI0 fun i j => .bl (decide (i ≤ j))) := opB0 fun _ _ _ _ _ _ _ q => le_int q
theorem Jsf : OpR X (compareOp .Gt) (rI0 fun i j => .bl (decide (j < i))) := opB0 fun _ _ _ _ _ _ _ q => gt_int q
theorem JAy : OpR X (compareOp .GtE) (rI0 fun i j => .bl (decide (j ≤ i))) := opB0 fun _ _ _ _ _ _ _ q => ge_int q
theorem JAx : OpR X (compareOp .Is) (fun x y H Q => y = .non ∧ Q (.bl (decide (x = .non))) H) := by
  intro pins s σ H x y v u Q I rx ry h
  obtain ⟨rfl,q⟩ := h
  cases ry
  refine is_none_gen (Jcj I q ?_)
  cases x <;> first
    | (cases rx; rfl)
    | (obtain ⟨t,rfl⟩ := rx; rfl)
theorem OpR.or {f : Value → Value → Sem Value} {r r' : R2} (h : OpR X f r) (h' : OpR X f r') : OpR X f (fun x y H Q => r x y H Q ∨ r' x y H Q) := by
  intro pins s σ H x y v u Q I rx ry q
  rcases q with q | q
  · exact h pins s σ H x y v u Q I rx ry q
  · exact h' pins s σ H x y v u Q I rx ry q

theorem Jbm (b : Expr) {op : CmpOp} (h : op ≠ .In := by decide) (h2 : op ≠ .NotIn := by decide) : behindInMarks op b = false := by
  have e1 : (op == CmpOp.In) = false := by cases op <;> first | rfl | exact absurd rfl h
  have e2 : (op == CmpOp.NotIn) = false := by cases op <;> first | rfl | exact absurd rfl h2
  cases b <;> simp [behindInMarks,e1,e2]
theorem Jsd {op : CmpOp} {r : R2} (ho : OpR X (compareOp op) r) (ha : PE X a ta) (hb : PE X b tb) (hm : behindInMarks op b = false) : PE X (.Compare a [op] [b] pos) (tOp r ta tb) := by
  intro pins s σ H Q I h
  exact wpAny_Compare1 (binT ha hb I h fun v u s2 x y H2 I2 rx ry q => ho pins s2 σ H2 x y v u Q I2 rx ry q) hm
def Jxi (t : TE) : TT := fun σ H Q => t σ H fun x H' => ∃ k,x = .bl k ∧ Q k H'
theorem Jxz {op : CmpOp} {r : R2} (ho : OpR X (compareOp op) r) (ha : PE X a ta) (hb : PE X b tb) (hm : behindInMarks op b = false) : PT X (.Compare a [op] [b] pos) (Jxi (tOp r ta tb)) := by
  intro pins s σ H Q I h
  refine wpAny_isTrue_Compare1 (thn (ha pins s σ H _ I h) fun v s1 ⟨x,H1,I1,r1,q1⟩ => thn (hb pins s1 σ H1 _ I1 q1) fun u s2 ⟨y,H2,I2,r2,q2⟩ =>
    thn (ho pins s2 σ H2 x y v u _ I2 r1 r2 q2) fun c s3 ⟨z,H3,I3,r3,k,e,q3⟩ => ?_) hm
  subst e
  cases r3
  exact wpAny_truthy_bool ⟨H3,I3,q3⟩
def Jwd (r r' : R2) (ta tb tc : TE) : TE := fun σ H Q => ta σ H fun x H1 => tb σ H1 fun y H2 => r x y H2 fun z H3 => ∃ k,z = .bl k ∧
  (if k = true then tc σ H3 fun w' H4 => r' y w' H4 Q else Q (.bl false) H3)
theorem Juu {op op' : CmpOp} {r r' : R2} (ho : OpR X (compareOp op) r) (ho' : OpR X (compareOp op') r') (ha : PE X a ta) (hb : PE X b tb) (hc : PE X c tc)
    (hm : lastMarks [op,op'] [b,c] = false := by with_unfolding_all rfl) : PT X (.Compare a [op,op'] [b,c] pos) (Jxi (Jwd r r' ta tb tc)) := by
  intro pins s σ H Q I h
  refine isTrue_chain (thn (ha pins s σ H _ I h) fun v s1 ⟨x,H1,I1,r1,q1⟩ => test_link (thn (hb pins s1 σ H1 _ I1 q1) fun u s2 ⟨y,H2,I2,r2,q2⟩ =>
    thn (ho pins s2 σ H2 x y v u _ I2 r1 r2 q2) fun d s3 ⟨z,H3,I3,r3,k,e,q3⟩ => ?_)) hm
  subst e
  cases r3
  refine wpAny_truthy_bool ?_
  cases k with
  | false =>
    obtain ⟨k',e',q'⟩ := q3
    cases e'
    exact ite_ff ⟨H3,I3,q'⟩
  | true =>
    refine ite_tt (test_last (thn (hc pins s3 σ H3 _ I3 q3) fun w' s4 ⟨z',H4,I4,r4,q4⟩ => thn (ho' pins s4 σ H4 y z' u w' _ I4 r2 r4 q4) fun d' s5 ⟨z2,H5,I5,r5,k2,e2,q5⟩ => ?_))
    subst e2
    cases r5
    exact wpAny_truthy_bool ⟨H5,I5,q5⟩

theorem Jnr : (sizeLine : Nat) < 2 ^ 63 := by rw [sizeLine_eq]; decide
theorem Jqt : OpR X (binaryOp .Add) (fun x y H Q => ∃ i j,x = .str i ∧ y = .str j ∧ i.length + j.length ≤ sizeLine ∧ Q (.str (i ++ j)) H) := by
  intro pins s σ H x y v u Q I rx ry h
  obtain ⟨i,j,rfl,rfl,hz,q⟩ := h
  obtain ⟨t,rfl⟩ := rx
  obtain ⟨t',rfl⟩ := ry
  exact add_str (fun t' tk => ⟨.str (i ++ j),H,I.tok _,⟨_,rfl⟩,q⟩) hz
theorem vals1 {x : V} {us : List Value} (r : Vals [x] us) : ∃ u,us = [u] ∧ RelV x u := by
  cases r with
  | cons r1 r2 => cases r2; exact ⟨_,rfl,r1⟩
theorem vals2 {x y : V} {us : List Value} (r : Vals [x,y] us) : ∃ u w',us = [u,w'] ∧ RelV x u ∧ RelV y w' := by
  cases r with
  | cons r1 r2 =>
    cases r2 with
    | cons r3 r4 => cases r4; exact ⟨_,_,rfl,r1,r3⟩
theorem Jqk : Jdp X (.builtin "abs") (fun xs H Q => ∃ i,xs = [.int i] ∧ Q (.int (if i < 0 then -i else i)) H) := by
  intro pins s σ H xs us Q I r h
  obtain ⟨i,rfl,q⟩ := h
  obtain ⟨u,rfl,t,rfl⟩ := vals1 r
  exact call_abs_int fun u tk => ⟨.int (if i < 0 then -i else i),H,I.tok _,⟨_,rfl⟩,q⟩
theorem Jtm (hc : X.calm = true) : Jdp X (.builtin "max") (fun xs H Q => ∃ i j,xs = [.int i,.int j] ∧ Q (.int (if j > i then j else i)) H) := by
  intro pins s σ H xs us Q I r h
  obtain ⟨i,j,rfl,q⟩ := h
  obtain ⟨u,w',rfl,⟨t,rfl⟩,⟨t',rfl⟩⟩ := vals2 r
  refine max_two_ints (I.ok.hd hc) fun h' tk k => ⟨_,H,I.kept k,?_,q⟩
  by_cases hj : j > i
  · rw [if_pos hj,if_pos hj]; exact ⟨_,rfl⟩
  · rw [if_neg hj,if_neg hj]; exact ⟨_,rfl⟩
theorem Jtk (hc : X.calm = true) : Jdp X (.builtin "min") (fun xs H Q => ∃ i j,xs = [.int i,.int j] ∧ Q (.int (if j < i then j else i)) H) := by
  intro pins s σ H xs us Q I r h
  obtain ⟨i,j,rfl,q⟩ := h
  obtain ⟨u,w',rfl,⟨t,rfl⟩,⟨t',rfl⟩⟩ := vals2 r
  refine min_two_ints (I.ok.hd hc) fun h' tk k => ⟨_,H,I.kept k,?_,q⟩
  by_cases hj : j < i
  · rw [if_pos hj,if_pos hj]; exact ⟨_,rfl⟩
  · rw [if_neg hj,if_neg hj]; exact ⟨_,rfl⟩
theorem Jtn : Jdp X (.type "int") (fun xs H Q => (∃ i,xs = [.int i] ∧ Q (.int i) H) ∨ ∃ k,xs = [.bl k] ∧ Q (.int (if k then 1 else 0)) H) := by
  intro pins s σ H xs us Q I r h
  rcases h with ⟨i,rfl,q⟩ | ⟨k,rfl,q⟩
  · obtain ⟨u,rfl,t,rfl⟩ := vals1 r
    exact call_int_int ⟨.int i,H,I,⟨_,rfl⟩,q⟩
  · obtain ⟨u,rfl,r1⟩ := vals1 r
    cases r1
    exact call_int_bool ⟨.int (if k then 1 else 0),H,I.tok _,⟨_,rfl⟩,q⟩
end
end L2

namespace L2
open PySem PySem.Spec PyProof.Rows

structure ObjM (h : Heap) (x dx C : Addr) (mA : Str → Option Value) : Prop where
  obj : h.get? x = some (PySem.W.instObj C dx)
  ns : h.Ns1 dx mA
  ne : dx ≠ x

theorem Jsq {h : Heap} {dx : Addr} {mA : Str → Option Value} (n : h.Ns1 dx mA) : ∃ od,h.get? dx = some od ∧ ∀ name,PySem.W.lookIn name od = some (mA name) := by
  obtain ⟨o,es,ep,ho,hd,hk,_,hm⟩ := n
  refine ⟨o,ho,fun name => ?_⟩
  have e := hm name
  unfold nsFind findBy at e
  rw [← Array.find?_toList] at e
  unfold PySem.W.lookIn
  rw [hd]
  dsimp only
  split
  · rename_i y q
    rw [q] at e
    exact congrArg some e
  · rename_i q
    rw [q] at e
    have a : es.toList.any (·.refKey) = false := by
      rw [List.any_eq_false]
      intro y hy
      obtain ⟨z,t,hkey⟩ := hk y (Array.mem_toList_iff.mp hy)
      simp [DictEntry.refKey,hkey]
    have a' : ¬ es.toList.any (·.refKey) = true := by rw [a]; exact Bool.false_ne_true
    rw [if_neg a']
    exact congrArg some e

theorem ObjM.look {h : Heap} {x dx C : Addr} {mA : Str → Option Value} (I : ObjM h x dx C mA) : ∃ od,PySem.W.InstAt h x (PySem.W.instObj C dx) C (some od) ∧ ∀ name,PySem.W.lookIn name od = some (mA name) :=
  let ⟨od,ho,hl⟩ := Jsq I.ns
  ⟨od,⟨I.obj,rfl,rfl,ho⟩,hl⟩

section
variable {prog : Program} {w : World} {A : Around} {E : Value → Shared → Prop} {s : Shared} {K : PySem.W.Frag} {x dx C f : Addr} {mA : Str → Option Value} {name : Str} {v : Value}

end

section
variable {P : Program} {w : World} {H H' : Hp} {h h' : Heap} {a C dx : Addr} {fs fs' : List (Str × V)}
theorem Jy4 (hok : HOk P w H h) (e : H a = some (.ins C dx fs)) : ∃ mA,ObjM h a dx C mA ∧ (∀ f,RelO (fs.lookup f) (mA f)) ∧ PySem.Within mA (fs.map (·.1)) ∧ fs.length ≤ 1000 ∧ H dx = some (.own a) := by
  obtain ⟨d,z,ne,ob,mA,n,r,q⟩ := (show Jd1 P w H h a (.ins C dx fs) from hok a _ e)
  exact ⟨mA,⟨ob,n,ne⟩,r,q,z,d⟩
end

structure Cls (K : PySem.W.Frag) (C : Addr) : Prop where
  pg : PySem.W.plainGet K C Str.empty = true
  hd : PySem.W.hasDictIn K C = true
  po : PySem.W.plainOver K C = true
  sa : PySem.W.findIn K (.ref C) "__setattr__" = some (some (.builtin "object.__setattr__"))
theorem Cls.get {K : PySem.W.Frag} {C : Addr} (c : Cls K C) (f : Str) : PySem.W.plainGet K C f = true := c.pg

structure Con (K : PySem.W.Frag) (C : Addr) (f : Str) (v : V) (u : Value) : Prop where
  at_ : PySem.W.findIn K (.ref C) f = some (some u)
  rel : RelV v u
  get : PySem.W.specialIn K u "__get__" = some none
  cp : PySem.W.copiedNames.contains f = false

structure Meth (K : PySem.W.Frag) (C : Addr) (m : Str) (f : Addr) : Prop where
  at_ : PySem.W.findIn K (.ref C) m = some (some (.ref f))
  fn : PySem.W.isFn K (.ref f) = true
  kp : PySem.W.keepIn K (.ref f) = true

section
variable {X : Cx} {pins : List (Addr × Obj)} {σ : St} {H : Hp} {s : Shared} {a C dx : Addr} {fs : List (Str × V)} {f : Str} {v : V} {A : Around} {E : Value → Shared → Prop}

theorem Inv.made (I : Inv X pins σ H s) : Inv X pins σ (upd (upd H s.heap.objs.size (.own (s.heap.objs.size + 1))) (s.heap.objs.size + 1) (.ins C s.heap.objs.size []))
    { s with heap := (s.heap.push PySem.W.emptyDict).push (PySem.W.instObj C s.heap.objs.size) } := by
  have e1 : (s.heap.push PySem.W.emptyDict).get? s.heap.objs.size = some PySem.W.emptyDict := Heap.get?_push_size s.heap rfl
  have e2 : ((s.heap.push PySem.W.emptyDict).push (PySem.W.instObj C s.heap.objs.size)).get? (s.heap.objs.size + 1) = some (PySem.W.instObj C s.heap.objs.size) := by
    have := Heap.get?_push_size (s.heap.push PySem.W.emptyDict) (o := PySem.W.instObj C s.heap.objs.size) rfl
    rwa [Heap.size_push] at this
  have e3 : (s.heap.push PySem.W.emptyDict).Ns s.heap.objs.size (fun _ => none) := ⟨PySem.W.emptyDict,#[],_,e1,rfl,(fun e he => absurd he (by simp)),fun _ => rfl⟩
  have I1 := I.laid (a := s.heap.objs.size) (o := .own (s.heap.objs.size + 1)) (h' := s.heap.push PySem.W.emptyDict) (t' := s.toks) (fun b u q => Heap.get?_push_of_some _ q) (Nat.le_refl _) ⟨_,e1⟩
  refine I1.laid (a := s.heap.objs.size + 1) (o := .ins C s.heap.objs.size []) (t' := s.toks) (fun b u q => Heap.get?_push_of_some _ q) (Nat.le_of_eq (Heap.size_push _ _)) ?_
  have ne : s.heap.objs.size ≠ s.heap.objs.size + 1 := Nat.ne_of_lt (Nat.lt_succ_self _)
  refine ⟨by rw [Ja5 ne,Ja6],Nat.zero_le _,ne,e2,fun _ => none,(Heap.Ns1.of_empty e3).at fun o q => Heap.get?_push_of_some _ q,fun _ => True.intro,fun y hy => absurd rfl hy⟩

end

section
variable {X : Cx} {o e value : Expr} {f : Str} {pos pos' tpos : Pos} {ta tv : TE}
end

section
variable {X : Cx} {pins : List (Addr × Obj)} {σ : St} {H : Hp} {s : Shared} {A : Around} {E : Value → Shared → Prop} {Q : Value → Shared → Prop} {c : Value} {b : Bool}

inductive TyOf (K : PySem.W.Frag) (H : Hp) : V → Value → Prop where
  | non : TyOf K H .non (.type "NoneType")
  | bl (x : Bool) : TyOf K H (.bl x) (.type "bool")
  | int (i : Int) : TyOf K H (.int i) (.type "int")
  | str (x : Str) : TyOf K H (.str x) (.type "str")
  | flt (x : UInt64) : TyOf K H (.flt x) (.type "float")
  | lst {a : Addr} {xs : List V} (e : H a = some (.lst xs)) : TyOf K H (.ref a) (.type "list")
  | frz {a : Addr} {o : Obj} {xs : List V} (e : H a = some (.frz o (.lst xs))) : TyOf K H (.ref a) (.type "list")
  | tup {a : Addr} {xs : List V} (e : H a = some (.tup xs)) : TyOf K H (.ref a) (.type "tuple")
  | dK {a : Addr} {kvs : List (Key × V)} (e : H a = some (.dK kvs)) : TyOf K H (.ref a) (.type "dict")
  | dT {a : Addr} {kvs : List (List Key × V)} (e : H a = some (.dT kvs)) : TyOf K H (.ref a) (.type "dict")
  | ins {a C dx : Addr} {fs : List (Str × V)} (e : H a = some (.ins C dx fs)) (cl : Cls K C) (ha : PySem.W.findIn K (.ref C) "__class__" = some (some (.builtin "object.__class__")))
      (hn : PySem.W.specialIn K (.builtin "object.__class__") "__get__" = some (some (.builtin "getset_descriptor.__get__"))) (htk : PySem.W.takesIn K (.builtin "object.__class__") = some true)
      (hm : PySem.W.mroIn K C (.type "object") = some true) : TyOf K H (.ref a) (.ref C)
theorem Jsy {x : V} {u t : Value} (I : Inv X pins σ H s) (rx : RelV x u) (ty : TyOf X.K H x t) (e : PySem.W.kitOne X.K t c = some b) (h : ∀ tk,Q (.bool b) { s with toks := tk }) :
    wpAny (model X.prog X.w) A (call (.builtin "isinstance") [u,c]) Q E s := by
  cases ty with
  | non => cases (show u = Value.none from rx); exact PySem.W.kia_one PySem.W.kitx_none I.kIn True.intro e (fun z => nomatch z) h
  | bl y => cases (show u = Value.bool y from rx); exact PySem.W.kia_one PySem.W.kitx_bool I.kIn True.intro e (fun z => nomatch z) h
  | int i => obtain ⟨t,q⟩ := (show ∃ t,u = Value.int i t from rx); cases q; exact PySem.W.kia_one PySem.W.kitx_int I.kIn True.intro e (fun z => nomatch z) h
  | str y => obtain ⟨t,q⟩ := (show ∃ t,u = Value.str y t from rx); cases q; exact PySem.W.kia_one PySem.W.kitx_str I.kIn True.intro e (fun z => nomatch z) h
  | flt y => obtain ⟨t,q⟩ := (show ∃ t,u = Value.float y t from rx); cases q; exact PySem.W.kia_one PySem.W.kitx_float I.kIn True.intro e (fun z => nomatch z) h
  | @lst a xs ea =>
    cases (show u = Value.ref a from rx)
    obtain ⟨_,_,n,_,h1⟩ := (show Jd1 X.prog X.w H s.heap a (.lst xs) from I.hok a _ ea)
    exact PySem.W.kia_one PySem.W.kitx_list I.kIn ⟨_,h1,rfl⟩ e (fun z => nomatch z) h
  | @frz a ob xs ea =>
    cases (show u = Value.ref a from rx)
    obtain ⟨_,_,_,n,_,h1⟩ := (show Jd1 X.prog X.w H s.heap a (.frz ob (.lst xs)) from I.hok a _ ea)
    exact PySem.W.kia_one PySem.W.kitx_list I.kIn ⟨_,h1,rfl⟩ e (fun z => nomatch z) h
  | @tup a xs ea =>
    cases (show u = Value.ref a from rx)
    obtain ⟨_,_,_,p⟩ := (show Jd1 X.prog X.w H s.heap a (.tup xs) from I.hok a _ ea)
    obtain ⟨o,h1,h2,_⟩ := p
    exact PySem.W.kia_one PySem.W.kitx_tuple I.kIn ⟨o,h1,h2⟩ e (fun z => nomatch z) h
  | @dK a kvs ea =>
    cases (show u = Value.ref a from rx)
    obtain ⟨_,_,vs,_,p⟩ := (show Jd1 X.prog X.w H s.heap a (.dK kvs) from I.hok a _ ea)
    obtain ⟨o,es,ep,h1,h2,_⟩ := p
    exact PySem.W.kia_one PySem.W.kitx_dict I.kIn ⟨o,h1,h2.1⟩ e (fun z => nomatch z) h
  | @dT a kvs ea =>
    cases (show u = Value.ref a from rx)
    obtain ⟨_,_,xs,_,o,es,ep,h1,h2,_⟩ := (show Jd1 X.prog X.w H s.heap a (.dT kvs) from I.hok a _ ea)
    exact PySem.W.kia_one PySem.W.kitx_dict I.kIn ⟨o,h1,h2.1⟩ e (fun z => nomatch z) h
  | @ins a C dx fs ea cl ha hn htk hm =>
    cases (show u = Value.ref a from rx)
    obtain ⟨mA,O,_⟩ := Jy4 I.hok ea
    obtain ⟨od,J,_⟩ := O.look
    exact PySem.W.kia_one (PySem.W.kitx_own (cl.get _) cl.hd ha hn htk hm) I.kIn J e (fun z => nomatch z) h
end
end L2

namespace L2
open PySem PySem.Spec PyProof.Rows

structure Room (k : Nat) (A : Around) : Prop where
  hd : A.handled = none
  dp : A.depth + 3 * k + 5 < recursionLimit
  un : A.units + 16 * k + 200 < cLine
  gd : A.guards = some []
theorem Room.mono {j k : Nat} {A : Around} (r : Room k A) (h : j ≤ k) : Room j A := ⟨r.hd,by have := r.dp; omega,by have := r.un; omega,r.gd⟩
theorem Room.deeper {k : Nat} {A : Around} (r : Room (k + 1) A) (env : Env) : Room k (A.deeper env) :=
  ⟨r.hd,by have := r.dp; show A.depth + 1 + 3 * k + 5 < _; omega,by have := r.un; show A.units + 3 + 16 * k + 200 < _; omega,r.gd⟩
theorem Room.in1 {k : Nat} {A : Around} (r : Room (k + 1) A) : Room k A.in1 :=
  ⟨r.hd,by have := r.dp; show A.depth + 3 * k + 5 < _; omega,by have := r.un; show A.units + 1 + 16 * k + 200 < _; omega,r.gd⟩
theorem Room.depth {k : Nat} {A : Around} (r : Room k A) : A.depth < recursionLimit := by have := r.dp; omega
theorem Room.units {k : Nat} {A : Around} (r : Room k A) : A.units + 64 < cLine := by have := r.un; omega
def tNil : TA := fun _ H Q => Q [] H
def Jzx (ta : TE) (tr : TA) : TA := fun σ H Q => ta σ H fun x H1 => tr σ H1 fun xs H2 => Q (x :: xs) H2
section
variable {X : Cx} {e : Expr} {es : List Expr} {te : TE} {t : TA} {pos : Pos}
theorem Jpy : PA X [] tNil := fun _ _ _ _ H Q I h => Calls.spliced_nil ⟨[],H,I,.nil,h⟩
theorem Jl8 (ha : PE X e te) (hr : PA X es t) (hs : starEach (e :: es) X.env = (false,eval e X.env) :: starEach es X.env := by rfl) : PA X (e :: es) (Jzx te t) := by
  intro pos pins s σ H Q I h
  rw [hs]
  show wpAny _ _ (spliced ((false,eval e X.env) :: backTo pos (starEach es X.env))) _ _ s
  refine Calls.spliced_cons (thn (ha pins s σ H _ I h) fun u s1 ⟨x,H1,I1,r1,q1⟩ => ?_)
  exact thn (hr pos pins s1 σ H1 _ I1 q1) fun us s2 ⟨xs,H2,I2,r2,q2⟩ => ⟨x :: xs,H2,I2,.cons r1 r2,q2⟩

def tTup (t : TA) : TE := fun σ H Q => t σ H fun xs H1 => xs.length ≤ sizeLine ∧ ∀ p,H1 p = none → Q (.ref p) (upd H1 p (.tup xs))
def tLst (t : TA) : TE := fun σ H Q => t σ H fun xs H1 => xs.length ≤ sizeLine ∧ ∀ p,H1 p = none → Q (.ref p) (upd H1 p (.lst xs))
theorem JAm {x1} (h : PA X es t) : PE X (.Tuple es x1 pos) (tTup t) := by
  intro pins s σ H Q I hq
  refine wpAny_Tuple_spliced (thn (h pos pins s σ H _ I hq) fun us s1 ⟨xs,H1,I1,r,z,q⟩ => ⟨by rw [← r.length]; exact z,?_⟩)
  have hf : H1 s1.heap.objs.size = none := I1.hok.fresh (Nat.le_refl _)
  refine ⟨.ref s1.heap.objs.size,upd H1 s1.heap.objs.size (.tup xs),I1.laid (t' := s1.toks) (fun b u e => Heap.get?_push_of_some _ e) (Nat.le_refl _) ?_,rfl,q _ hf⟩
  exact ⟨z,us,r,⟨_,Heap.get?_push_size _ rfl,rfl,_,rfl⟩⟩
theorem Jwi (h : PA X es t) : PE X (.List es pos) (tLst t) := by
  intro pins s σ H Q I hq
  refine wpAny_List_spliced (thn (h pos pins s σ H _ I hq) fun us s1 ⟨xs,H1,I1,r,z,q⟩ => ⟨by rw [← r.length]; exact z,?_⟩)
  have hf : H1 s1.heap.objs.size = none := I1.hok.fresh (Nat.le_refl _)
  refine ⟨.ref s1.heap.objs.size,upd H1 s1.heap.objs.size (.lst xs),I1.laid (t' := s1.toks) (fun b u e => Heap.get?_push_of_some _ e) (Nat.le_refl _) ?_,rfl,q _ hf⟩
  exact ⟨z,us,0,r,Heap.get?_push_size _ rfl⟩
end

abbrev Sp := List V → Hp → VK → XK → Prop
abbrev CXT := List Env → Hp → Shared → XK → Value → Shared → Prop


structure Env0 (P : Program) (w : World) (K : PySem.W.Frag) (mg : Str → Option Value) (base : Heap) (A : Around) (outer : List Env) (s : Shared) (H : Hp) : Prop where
  frames : A.frames = some outer
  mod : Mod K mg base
  bs : ∀ b o,base.get? b = some o → s.heap.get? b = some o ∧ H b = none
  bsz : base.objs.size ≤ s.heap.objs.size
  funs : s.heap.FunFrames base outer
  frf : ∀ b ∈ frs outer,H b = none
  hok : HOk P w H s.heap
  bare : AllBare s.gens
  sy : H sysModules = none
def CE (outer : List Env) (P : Program) (w : World) (H : Hp) (s : Shared) (Q : VK) (u : Value) (s' : Shared) : Prop :=
  ∃ v H',s'.os = s.os ∧ AllBare s'.gens ∧ Un (frs outer) [] H H' s.heap s'.heap ∧ HOk P w H' s'.heap ∧ RelV v u ∧ Q v H'
def CR (CX : CXT) (outer : List Env) (P : Program) (w : World) (H : Hp) (s : Shared) (Q : VK) (E : XK) (r : Result) (s' : Shared) : Prop :=
  match r with
  | .ok (.ret u) => CE outer P w H s Q u s'
  | .ok _ => False
  | .error e => CX outer H s E e s'
structure FnOk (P : Program) (w : World) (K : PySem.W.Frag) (mg : Str → Option Value) (base : Heap) (CX : CXT) (k : Nat) (f : Addr) (fd : FuncData) (ps : List Str) (sp : Sp) : Prop where
  len : ∀ vs H Q E,sp vs H Q E → vs.length = ps.length
  run : ∀ (A : Around) (outer : List Env) (s : Shared) (H : Hp) (args : Args) (us : List Value) (vs : List V) (Q : VK) (E : XK),Room k A → Env0 P w K mg base A outer s H → BindsTo s fd args (ps.zip us) → Vals vs us → sp vs H Q E →
    codeAny (model P w) A (.call (.ref f) args) (CR CX outer P w H s Q E) s
theorem FnOk.mono {P : Program} {w : World} {K : PySem.W.Frag} {mg : Str → Option Value} {base : Heap} {CX : CXT} {j k : Nat} {f : Addr} {fd : FuncData} {ps : List Str} {sp : Sp} (F : FnOk P w K mg base CX j f fd ps sp) (h : j ≤ k) :
    FnOk P w K mg base CX k f fd ps sp := ⟨F.len,fun A outer s H args us vs Q E hr => F.run A outer s H args us vs Q E (hr.mono h)⟩
theorem FnOk.imp {P : Program} {w : World} {K : PySem.W.Frag} {mg : Str → Option Value} {base : Heap} {CX : CXT} {k : Nat} {f : Addr} {fd : FuncData} {ps : List Str} {sp sp' : Sp} (F : FnOk P w K mg base CX k f fd ps sp)
    (h : ∀ vs H Q E,sp' vs H Q E → sp vs H Q E) : FnOk P w K mg base CX k f fd ps sp' :=
  ⟨fun vs H Q E q => F.len vs H Q E (h _ _ _ _ q),fun A outer s H args us vs Q E hr he hb hv hs => F.run A outer s H args us vs Q E hr he hb hv (h _ _ _ _ hs)⟩

theorem Env0.in1 {P : Program} {w : World} {K : PySem.W.Frag} {mg : Str → Option Value} {base : Heap} {A : Around} {outer : List Env} {s : Shared} {H : Hp} (e : Env0 P w K mg base A outer s H) :
    Env0 P w K mg base A.in1 outer s H := ⟨e.frames,e.mod,e.bs,e.bsz,e.funs,e.frf,e.hok,e.bare,e.sy⟩

section
variable {X : Cx} {pins : List (Addr × Obj)} {σ : St} {H : Hp} {s s' : Shared}
theorem Inv.env0 (I : Inv X pins σ H s) : Env0 X.prog X.w X.K X.mg X.base X.A X.stack s H :=
  ⟨I.ok.frames,I.ok.mod,I.bs,Nat.le_trans I.ok.bsz I.sz,I.stack,I.Jrn,I.hok,I.bare,I.sysN⟩
theorem Inv.after {Q : VK} {u : Value} (I : Inv X pins σ H s) (h : CE X.stack X.prog X.w H s Q u s') : EP X pins σ Q u s' := by
  obtain ⟨v,H',os,bare,un,hok,r,q⟩ := h
  obtain ⟨hh,g,d,t,os'⟩ := s'
  obtain rfl : os' = s.os := os
  exact ⟨v,H',I.call (h' := hh) (g' := g) (d' := d) (t' := t) (ch := []) un hok bare (fun b z => absurd z (by simp)),r,q⟩
end

def Jzy (sp : Sp) (dvs : List V) (E : XK) (t : TA) : TE := fun σ H Q => t σ H fun vs H1 => sp (vs ++ dvs) H1 Q E
def Binds (K : PySem.W.Frag) (fd : FuncData) (ps : List Str) (ds : List Value) : Prop :=
  ∀ (s : Shared) (us : List Value),K.In s.heap → (us ++ ds).length = ps.length → BindsTo s fd ⟨us,[]⟩ (ps.zip (us ++ ds))
theorem Binds.all {K : PySem.W.Frag} {fd : FuncData} {ps : List Str} (h : ∀ us : List Value,us.length = ps.length → bindArgs fd ⟨us,[]⟩ = pure (ps.zip us)) : Binds K fd ps [] := fun s us _ hl => by
  rw [List.append_nil] at hl ⊢
  exact .of_eq (h us hl)

def Passes (CX : CXT) (X : Cx) (E : XK) : Prop := ∀ (pins : List (Addr × Obj)) (σ : St) (H : Hp) (s : Shared) (e : Value) (s' : Shared),Inv X pins σ H s → CX X.stack H s E e s' → X.xe e s'

section
variable {X : Cx} {CX : CXT} {k : Nat} {f C : Addr} {fd : FuncData} {ps : List Str} {sp : Sp} {dvs : List V} {ds : List Value} {E : XK} {x m : Str} {p pos apos : Pos} {e o : Expr} {es : List Expr} {ta : TE} {t : TA}

theorem Jz3 {pins : List (Addr × Obj)} {σ : St} {H : Hp} {s : Shared} {Q : VK} {us : List Value} {vs : List V} (F : FnOk X.prog X.w X.K X.mg X.base CX k f fd ps sp) (hr : Room k X.A) (hb : Binds X.K fd ps ds) (hd : Vals dvs ds) (hx : Passes CX X E)
    (I : Inv X pins σ H s) (r : Vals vs us) (h : sp (vs ++ dvs) H Q E) : wpAny (model X.prog X.w) X.A (call (.ref f) us) (EP X pins σ Q) X.xe s := by
  have r2 : Vals (vs ++ dvs) (us ++ ds) := r.append hd
  have hl : (us ++ ds).length = ps.length := by rw [← r2.length]; exact F.len _ _ _ _ h
  refine wpAny_call (codeAny_mono (F.run X.A X.stack s H ⟨us,[]⟩ (us ++ ds) (vs ++ dvs) Q E hr I.env0 (hb s us I.kIn hl) r2 h) fun r s' hq => ?_)
  cases r with
  | error e => exact hx pins σ H s e s' I hq
  | ok fl =>
    cases fl with
    | ret u => exact I.after hq
    | next => exact False.elim hq
    | brk => exact False.elim hq
    | cont => exact False.elim hq

theorem Jyb (F : FnOk X.prog X.w X.K X.mg X.base CX k f fd ps sp) (hr : Room k X.A) (hg : Gl X x) (hm : X.mg x = some (.ref f)) (hk : PySem.W.keepIn X.K (.ref f) = true) (hb : Binds X.K fd ps ds) (hd : Vals dvs ds) (hx : Passes CX X E)
    (ha : PA X (e :: es) t) (hdb : (x == ("__debug__" : Str)) = false := by decide) (he : starEach (e :: es) X.env = (false,eval e X.env) :: starEach es X.env := by rfl) (hpl : (backTo pos (starEach es X.env)).any (·.1) = false := by rfl) :
    PE X (.Call (.Name x p) (e :: es) [] pos) (Jzy sp dvs E t) := by
  intro pins s σ H Q I h
  refine wpAny_Call_Name_kw (Jst I hg hm ?_ hdb)
  refine PySem.W.callWith_K (h₀ := X.base) I.ok.mod.kin hk (thn (ha pos pins s σ H _ I h) fun us s1 ⟨vs,H1,I1,r,q⟩ => ⟨I1.kIn,?_⟩) he hpl
  exact Jz3 F hr hb hd hx I1 r q

structure Mk (K : PySem.W.Frag) (C f : Addr) : Prop where
  makes : PySem.W.makesIn K C = true
  init : PySem.W.findIn K (.ref C) "__init__" = some (some (.ref f))
  fn : PySem.W.isFn K (.ref f) = true
  kp : PySem.W.keepIn K (.ref C) = true

end

section
variable {X : Cx} {CX : CXT} {k : Nat} {f C : Addr} {fd : FuncData} {ps ks : List Str} {sp : Sp} {E : XK} {x m : Str} {p pos apos kpos : Pos} {e o : Expr} {es : List Expr} {kws : List Keyword} {te ta : TE} {t tk : TA} {nm : Option Str}

structure JDy (K : PySem.W.Frag) (fd : FuncData) (ps ks : List Str) (g : List Value → List Value → List Value) (gV : List V → List V → List V) : Prop where
  to : ∀ (s : Shared) (us ws : List Value),K.In s.heap → (g us ws).length = ps.length → BindsTo s fd ⟨us,ks.zip ws⟩ (ps.zip (g us ws))
  rel : ∀ {vs : List V} {us : List Value} {zs : List V} {ws : List Value},Vals vs us → Vals zs ws → Vals (gV vs zs) (g us ws)
variable {g : List Value → List Value → List Value} {gV : List V → List V → List V}
end


structure Jb3 (N P : List Str) (sc : Scope) : Prop where
  kind : sc.kind = .function
  co : sc.isCoroutine = false
  gen : sc.isGenerator = false
  nd : N.Nodup
  pre : N.take P.length = P
  par : ∀ x ∈ P,sc.names.lookup x = some .local ∨ sc.names.lookup x = some .cell
  nofree : ∀ y ∈ sc.names,y.2 ≠ .free

theorem Jof {kindOf : Str → Option NameKind} {x : Str} : ∀ {binds : List (Str × Value)} {m : Str → Option Value},(∀ v,(x,v) ∉ binds) → bindL kindOf binds m x = m x
  | [],_,_ => rfl
  | (n,v) :: r,m,h => by
    unfold bindL
    rw [Jof fun w hw => h w (List.mem_cons_of_mem _ hw)]
    split
    · have : x ≠ n := by rintro rfl; exact h v List.mem_cons_self
      simp [this]
    · rfl
theorem Joh {kindOf : Str → Option NameKind} {x : Str} : ∀ {binds : List (Str × Value)} {m : Str → Option Value},(∀ v,(x,v) ∉ binds) → bindC kindOf binds m x = m x
  | [],_,_ => rfl
  | (n,v) :: r,m,h => by
    unfold bindC
    rw [Joh fun w hw => h w (List.mem_cons_of_mem _ hw)]
    split
    · rfl
    · have : x ≠ n := by rintro rfl; exact h v List.mem_cons_self
      simp [this]
theorem Jog {kindOf : Str → Option NameKind} {x : Str} {v : Value} : ∀ {P : List Str} {vs : List Value} {i : Nat} {m : Str → Option Value},P.Nodup → P[i]? = some x → vs[i]? = some v → kindOf x = some .local →
    bindL kindOf (P.zip vs) m x = some v
  | [],_,_,_,_,h,_,_ => by simp at h
  | _ :: _,[],_,_,_,_,h,_ => by simp at h
  | p :: P,w :: vs,0,m,nd,h1,h2,hk => by
    simp at h1 h2; subst h1; subst h2
    show bindL kindOf ((p,w) :: P.zip vs) m p = _
    unfold bindL
    rw [Jof fun v hv => (List.nodup_cons.mp nd).1 (List.of_mem_zip hv).1,if_pos hk]
    simp
  | p :: P,w :: vs,i + 1,m,nd,h1,h2,hk => by
    show bindL kindOf ((p,w) :: P.zip vs) m x = _
    unfold bindL
    exact Jog (i := i) (List.nodup_cons.mp nd).2 (by simpa using h1) (by simpa using h2) hk
theorem Joi {kindOf : Str → Option NameKind} {x : Str} {v : Value} : ∀ {P : List Str} {vs : List Value} {i : Nat} {m : Str → Option Value},P.Nodup → P[i]? = some x → vs[i]? = some v → kindOf x ≠ some .local →
    bindC kindOf (P.zip vs) m x = some v
  | [],_,_,_,_,h,_,_ => by simp at h
  | _ :: _,[],_,_,_,_,h,_ => by simp at h
  | p :: P,w :: vs,0,m,nd,h1,h2,hk => by
    simp at h1 h2; subst h1; subst h2
    show bindC kindOf ((p,w) :: P.zip vs) m p = _
    unfold bindC
    rw [Joh fun v hv => (List.nodup_cons.mp nd).1 (List.of_mem_zip hv).1,if_neg hk]
    simp
  | p :: P,w :: vs,i + 1,m,nd,h1,h2,hk => by
    show bindC kindOf ((p,w) :: P.zip vs) m x = _
    unfold bindC
    exact Joi (i := i) (List.nodup_cons.mp nd).2 (by simpa using h1) (by simpa using h2) hk

def start (N : List Str) (vs : List V) : St := vs.map some ++ List.replicate (N.length - vs.length) none

def cxOf (CX : CXT) (P : Program) (w : World) (K : PySem.W.Frag) (mg : Str → Option Value) (base : Heap) (N : List Str) (qual : Str) (scope : Scope) (f : Addr) (cd : Value) (A : Around) (outer : List Env) (s : Shared) (H : Hp) (E : XK) : Cx where
  prog := P
  w := w
  K := K
  mg := mg
  base := base
  A := A.deeper (envOfC qual scope s.heap.objs.size f cd)
  N := N
  s₀ := s
  H₀ := H
  env := envOfC qual scope s.heap.objs.size f cd
  outer := outer
  stack := envOfC qual scope s.heap.objs.size f cd :: outer
  ex := []
  calm := true
  fn := fun _ => true
  pn := []
  xe := fun e s' => wpAny (model P w) (A.deeper (envOfC qual scope s.heap.objs.size f cd)) (leaving (envOfC qual scope s.heap.objs.size f cd) e) (fun _ s'' => CX outer H s E e s'') (fun e' s'' => CX outer H s E e' s'') s'

theorem Jqi {sc : Scope} {n : Nat} {x : Str} (h : sc.names.lookup x = some .cell) : ∃ c,(cellsFrom n sc.names []).lookup x = some c := by
  have q := PySem.W.cellsFrom_some sc.names n [] (.inl h)
  exact Option.isSome_iff_exists.mp q

theorem Js3 {CX : CXT} {P : Program} {w : World} {K : PySem.W.Frag} {mg : Str → Option Value} {base : Heap} {N ps : List Str} {qual : Str} {scope : Scope} {f : Addr} {cd : Value} {A : Around} {outer : List Env} {s s1 : Shared} {H : Hp} {E : XK} {us : List Value} {vs : List V}
    (S : Jb3 N ps scope) (hd : A.handled = none) (e0 : Env0 P w K mg base A outer s H) (hl : vs.length = ps.length) (r : Vals vs us)
    (x : InCallC s s.heap.objs.size (bindL (envOfC qual scope s.heap.objs.size f cd).kindOf (ps.zip us) fun _ => none) (cellsFrom (s.heap.objs.size + 1) scope.names []) (bindC (envOfC qual scope s.heap.objs.size f cd).kindOf (ps.zip us) fun _ => none) s1) :
    Inv (cxOf CX P w K mg base N qual scope f cd A outer s H E) [] (start N vs) H s1 := by
  have hpl : ps.length ≤ N.length := by have := congrArg List.length S.pre; rw [List.length_take] at this; omega
  obtain ⟨h1,tk,rfl,hk⟩ := x.done
  have noA : ∀ b : Addr,b ∉ (cxOf CX P w K mg base N qual scope f cd A outer s H E).ex := fun b z => absurd (show b ∈ ([] : List Addr) from z) (by simp)
  refine ⟨⟨e0.mod,S.kind,rfl,rfl,Nat.le_refl _,fun y z c h1 h2 => ?_,fun y hy => ?_,fun y c _ h => ?_,fun _ => hd,Around.frames_deeper e0.frames,.inr ⟨rfl,rfl⟩,fun b z => absurd z (noA b),e0.bs,e0.bsz,fun b _ _ => noA b,fun b z => absurd z (noA b),e0.funs,e0.frf,e0.sy⟩,
    rfl,e0.bare,Un.kept hk,⟨_,x.toInCall.ns,fun i y v h1 h2 h3 => ?_⟩,fun y c h => ⟨_,x.cell y c h⟩,e0.hok.fresh (Nat.le_refl _),fun y c h => ?_,fun p hp => absurd (show p ∈ ([] : List (Addr × Obj)) from hp) (by simp),e0.hok.kept hk,?_⟩
  · exact name_of_addr x.apart (PySem.mem_of_lookup h1) (PySem.mem_of_lookup h2)
  · have hy : scope.names.lookup y = some .cell ∨ scope.names.lookup y = some .free := hy
    rcases hy with hy | hy
    · exact Jqi hy
    · exact absurd rfl (S.nofree _ (PySem.mem_of_lookup hy))
  · exact Nat.le_of_lt (x.above y c (PySem.mem_of_lookup h))
  · have hi : i < vs.length := by
      unfold start at h2
      by_cases hi : i < vs.length
      · exact hi
      · rw [List.getElem?_append_right (by simpa using hi)] at h2
        rw [List.getElem?_replicate] at h2
        split at h2 <;> cases h2
    have ha : vs[i]? = some v := by
      unfold start at h2
      rw [List.getElem?_append_left (by simpa using hi),List.getElem?_map] at h2
      cases e : vs[i]? with
      | none => rw [e] at h2; cases h2
      | some a => rw [e] at h2; cases h2; rfl
    obtain ⟨u,hu,rv⟩ := r.get ha
    have hp : ps[i]? = some y := by
      rw [← S.pre,List.getElem?_take_of_lt (by omega)]; exact h1
    have ndP : ps.Nodup := by rw [← S.pre]; exact S.nd.sublist (List.take_sublist _ _)
    refine ⟨u,rv,?_⟩
    rcases S.par y (List.mem_of_getElem? hp) with k | k
    · exact .inl ⟨k,Jog ndP hp hu k⟩
    · obtain ⟨c,e⟩ := Jqi (n := s.heap.objs.size + 1) k
      refine .inr ⟨.inl k,c,e,?_⟩
      have q := x.cell y c e
      rw [Joi ndP hp hu (by show scope.names.lookup y ≠ _; rw [k]; decide)] at q
      exact q
  · exact e0.hok.fresh (Nat.le_of_lt (x.above y c (PySem.mem_of_lookup h)))
  · unfold start
    show _ = N.length
    rw [List.length_append,List.length_map,List.length_replicate]
    omega

theorem JDu {CX : CXT} {P : Program} {w : World} {K : PySem.W.Frag} {mg : Str → Option Value} {base : Heap} {k : Nat} {f : Addr} {name qual : Str} {params : Arguments} {body : List Stmt} {scope : Scope} {dV kV doc pm cdv ct oc : Value} {an od : Option Addr}
    {osl : Array (Option Value)} {N ps : List Str} {sp : Sp} (lk : K.lookup f = some ⟨oc,od,.func (PySem.W.fnOf name qual params body scope dV kV doc pm an cdv ct),osl⟩) (hcd : PySem.W.codeIn K cdv qual = true) (S : Jb3 N ps scope)
    (len : ∀ vs H Q E,sp vs H Q E → vs.length = ps.length)
    (hbody : ∀ (A : Around) (outer : List Env) (s : Shared) (H : Hp) (vs : List V) (Q : VK) (E : XK),Room k (A.deeper (envOfC qual scope s.heap.objs.size f cdv)) → sp vs H Q E →
      ∃ t,PSs (cxOf CX P w K mg base N qual scope f cdv A outer s H E) body t ∧ t { nx := fun _ H' => Q .non H',rt := Q } (start N vs) H) :
    FnOk P w K mg base CX (k + 1) f (PySem.W.fnOf name qual params body scope dV kV doc pm an cdv ct) ps sp := by
  refine ⟨len,fun A outer s H args us vs Q E hr e0 hb r hsp => ?_⟩
  have hl := len _ _ _ _ hsp
  have KX : K.In s.heap := e0.mod.kin.keeps fun b o e => (e0.bs b o e).1
  have lim : s.heap.NoLimit := e0.mod.nolimit.keeps fun b o e => (e0.bs b o e).1
  have hkind : ∀ y ∈ ps.zip us,scope.names.lookup y.1 = some .local ∨ (scope.names.lookup y.1 = some .cell ∧ ((cellsFrom (s.heap.objs.size + 1) scope.names []).lookup y.1).isSome = true) := fun ⟨n,v⟩ hy => by
    rcases S.par n (List.of_mem_zip hy).1 with q | q
    · exact .inl q
    · exact .inr ⟨q,PySem.W.cellsFrom_some _ _ _ (.inl q)⟩
  refine codeAny_call_function hr.depth (KX _ _ lk) rfl S.co S.gen rfl (PySem.W.codeRec_of KX hcd) (hb _ _ _ _ ?_)
  refine wpAny_newFunctionEnv_cells S.kind hkind fun env he s1 x => ?_
  subst he
  refine ⟨lim.keeps x.toInCall.keep,codeAny_func ?_⟩
  obtain ⟨t,ht,hq⟩ := hbody A outer s H vs Q E (hr.deeper _) hsp
  have I : Inv (cxOf CX P w K mg base N qual scope f cdv A outer s H E) [] (start N vs) H s1 := Js3 S hr.hd e0 hl r x
  refine wpAny_mono (ht [] s1 (start N vs) H _ I hq) (fun fl s' hs => ?_) fun e s' hs => hs
  have fin : ∀ {σ' : St} {H' : Hp} {v : V} {u : Value},Inv (cxOf CX P w K mg base N qual scope f cdv A outer s H E) [] σ' H' s' → RelV v u → Q v H' → CE outer P w H s Q u s' :=
    fun {σ' H' v u} J rv q => ⟨v,H',J.os,J.bare,J.base,J.hok,rv,q⟩
  cases fl with
  | ret u =>
    obtain ⟨v,σ',H',J,rv,q⟩ := hs
    exact fin J rv q
  | next =>
    obtain ⟨σ',H',J,q⟩ := hs
    exact fin (v := V.non) (u := Value.none) J rfl q
  | brk =>
    obtain ⟨_,_,_,q⟩ := hs
    exact False.elim q
  | cont =>
    obtain ⟨_,_,_,q⟩ := hs
    exact False.elim q
end L2

namespace L2
open PySem PySem.Spec PyProof.Rows
section
variable {X : Cx} {x : Str} {p pos : Pos} {e : Expr} {es : List Expr} {t : TA} {id T : String} {r : List V → Hp → VK → Prop}

def tCB (r : List V → Hp → VK → Prop) (t : TA) : TE := fun σ H Q => t σ H fun vs H1 => r vs H1 Q
theorem Jpx (hc : Jdp X (.builtin id) r) (hg : Gl X x) (hm : X.mg x = none) (hv : bootBuiltins x = some (.builtin id)) (ha : PA X (e :: es) t) (hn : x ≠ "__name__" := by decide) (hdb : (x == ("__debug__" : Str)) = false := by decide)
    (he : starEach (e :: es) X.env = (false,eval e X.env) :: starEach es X.env := by rfl) (hpl : (backTo pos (starEach es X.env)).any (·.1) = false := by rfl) : PE X (.Call (.Name x p) (e :: es) [] pos) (tCB r t) := by
  intro pins s σ H Q I h
  refine wpAny_Call_Name_kw (Jka I hg hm hv ?_ hn hdb)
  exact PyProof.Rows.callWith_builtin1 (thn (ha pos pins s σ H _ I h) fun us s1 ⟨vs,H1,I1,r1,q1⟩ => hc pins s1 σ H1 vs us Q I1 r1 q1) he hpl
theorem Jgw (hc : Jdp X (.type T) r) (hg : Gl X x) (hm : X.mg x = none) (hv : bootBuiltins x = some (.type T)) (ha : PA X (e :: es) t) (hn : x ≠ "__name__" := by decide) (hdb : (x == ("__debug__" : Str)) = false := by decide)
    (he : starEach (e :: es) X.env = (false,eval e X.env) :: starEach es X.env := by rfl) (hpl : (backTo pos (starEach es X.env)).any (·.1) = false := by rfl) : PE X (.Call (.Name x p) (e :: es) [] pos) (tCB r t) := by
  intro pins s σ H Q I h
  refine wpAny_Call_Name_kw (Jka I hg hm hv ?_ hn hdb)
  exact PyProof.Rows.callWith_type1 (thn (ha pos pins s σ H _ I h) fun us s1 ⟨vs,H1,I1,r1,q1⟩ => hc pins s1 σ H1 vs us Q I1 r1 q1) he hpl
end
end L2

namespace HT
open PySem PyProof.Rows

def lexLt : List Int → List Int → Bool
  | [],[] => false
  | [],_ :: _ => true
  | _ :: _,[] => false
  | x :: xs,y :: ys => if x = y then lexLt xs ys else decide (x < y)
theorem Jdv (x y : Int) (xs ys : List Int) : lexLt (x :: xs) (y :: ys) = if x = y then lexLt xs ys else decide (x < y) := rfl
theorem Jme : lexLt [] [] = false := rfl
theorem Jk1 (y : Int) (ys : List Int) : lexLt [] (y :: ys) = true := rfl
theorem Jk2 (x : Int) (xs : List Int) : lexLt (x :: xs) [] = false := rfl

theorem Jv3 (A : Around) (s : Shared) (a : Int) (t : Tok) (c : Int) (u : Tok) : ∃ e,SeqAt.EqAt A s (.int a t) (.int c u) e ∧ (e = true ↔ a = c) :=
  ⟨(a == c),SeqAt.EqAt.int_int a t c u,by simp⟩
theorem Jur (A : Around) (s : Shared) (a : Int) (t : Tok) (c : Int) (u : Tok) (prog : Program) (w : World) (E : Value → Shared → Prop) (Q : Value → Shared → Prop) (h : Q (.bool (decide (a < c))) s) :
    wpAny (model prog w) A (richCompare .Lt (.int a t) (.int c u)) Q E s :=
  (PyProof.Rows.lt_int h : wpAny (model prog w) A (compareOp .Lt (.int a t) (.int c u)) Q E s)

section
open PySem.SeqAt
open PySem.AutoSeq1 (wpAny_loadPart')
open PySem.MeetsSeq PySem.MeetsSeq2 PySem.MeetsSeq3

theorem Jl2 (l b : Addr) (items items2 : Array Value) (n n2 : Nat) (dd dd2 : Option Addr) (sl sl2 : Array (Option Value)) (ns ms : List Int) (hi : IntsAre items.toList ns) (hj : IntsAre items2.toList ms) :
    Meets (Builtin.«tuple.__lt__» ⟨[.ref l,.ref b],[]⟩)
      (fun _ R s => s.heap.get? l = some { cls := .type "tuple",dict := dd,data := .seq items n,slots := sl } ∧ s.heap.get? b = some { cls := .type "tuple",dict := dd2,data := .seq items2 n2,slots := sl2 } ∧
        R (.ok (.ret (.bool (lexLt ns ms)))) s) :=
  .of_wp fun prog w A R s h => by
    obtain ⟨hp,g,d,tk,os⟩ := s; obtain ⟨hl,hb,h⟩ := h
    have f2 := AutoSeq1.sub_tuple_tuple
    have z1 : items.size = ns.length := by rw [← hi.length]; simp
    have z2 : items2.size = ms.length := by rw [← hj.length]; simp
    wp_walk using wpAny_loadPart' hl,wpAny_loadPart' hb,wpAny_forIn_list _ (fun rest b s' => b.1 = none ∧ s' = ⟨hp,g,d,tk,os⟩ ∧ ∃ (vs ws : List Value) (ns' ms' : List Int),rest = vs.zip ws ∧
      IntsAre vs ns' ∧ IntsAre ws ms' ∧ ns'.length + items2.size = ms'.length + items.size ∧ R (.ok (.ret (.bool (lexLt ns' ms')))) ⟨hp,g,d,tk,os⟩) _
    case turn =>
      rintro ⟨y,x⟩ rest b s' ⟨hb',rfl,vs,ws,ns',ms',hz,hvi,hwi,hlen,hR⟩
      cases hvi with
      | nil => rw [List.zip_nil_left] at hz; cases hz
      | cons a t hvi' =>
        cases hwi with
        | nil => rw [List.zip_nil_right] at hz; cases hz
        | cons c u hwi' =>
          rw [List.zip_cons_cons] at hz
          injection hz with hyx hrest
          injection hyx with hy hx
          subst hy hx
          rw [Jdv] at hR
          simp only [List.length_cons] at hlen
          obtain ⟨e,he,hiff⟩ := Jv3 A.in1 ⟨hp,g,d,tk,os⟩ a t c u
          refine wpAny_bind (he prog w _ _ ?_)
          cases e with
          | true =>
            rw [if_pos (hiff.mp rfl)] at hR
            wp_walk
            exact ⟨rfl,rfl,_,_,_,_,hrest,hvi',hwi',by omega,hR⟩
          | false =>
            rw [if_neg (fun q => absurd (hiff.mpr q) Bool.false_ne_true)] at hR
            have hri := Jur A.in1 ⟨hp,g,d,tk,os⟩ a t c u prog w
            wp_walk using hri
            exact ⟨_,rfl,by simpa using hR⟩
    case fin =>
      rintro ⟨b1,b2⟩ s' ⟨hb',rfl,vs,ws,ns',ms',hz,hvi,hwi,hlen,hR⟩
      simp only at hb'
      subst hb'
      have hv : lexLt ns' ms' = decide (items.size < items2.size) := by
        cases hvi with
        | nil =>
          cases hwi with
          | nil =>
            simp only [List.length_nil] at hlen
            rw [Jme]
            exact (decide_eq_false (by omega)).symm
          | cons c u hw =>
            simp only [List.length_nil,List.length_cons] at hlen
            rw [Jk1]
            exact (decide_eq_true (by omega)).symm
        | cons a t hv =>
          cases hwi with
          | nil =>
            simp only [List.length_nil,List.length_cons] at hlen
            rw [Jk2]
            exact (decide_eq_false (by omega)).symm
          | cons c u hw =>
            rw [List.zip_cons_cons] at hz
            cases hz
      rw [hv] at hR
      wp_walk
      exact ⟨_,rfl,by simpa [Builtin.Tuple.tupleCompareSizes] using hR⟩
    case h =>
      exact ⟨rfl,rfl,items.toList,items2.toList,ns,ms,rfl,hi,hj,by omega,h⟩
end

section
variable {prog : Program} {w : World} {A : Around} {E : Value → Shared → Prop} {s : Shared}

theorem Jqx {l b : Addr} {items items2 : Array Value} {ns ms : List Int} {Q : Value → Shared → Prop} (hl : IsTup s.heap l items) (hb : IsTup s.heap b items2) (hi : IntsAre items.toList ns) (hj : IntsAre items2.toList ms)
    (hu : A.units < cLine) (h : Q (.bool (lexLt ns ms)) s) : wpAny (model prog w) A (compareOp .Lt (.ref l) (.ref b)) Q E s := by
  obtain ⟨⟨cls,dd,data,sl⟩,ho,hc,n,hd⟩ := id hl
  obtain ⟨⟨cls2,dd2,data2,sl2⟩,ho2,hc2,n2,hd2⟩ := id hb
  simp only at hc hd hc2 hd2
  subst hc hd hc2 hd2
  exact richCompare_meets_room (op := .Lt) ⟨_,ho,rfl⟩ ⟨_,ho2,rfl⟩ PySem.F.slot_tuple_lt PySem.F.entry_tuple_lt (PySem.F.args_tuple_lt_2 _ _) (Jl2 l b items items2 n n2 dd dd2 sl sl2 ns ms hi hj)
    ⟨ho,ho2,show Value.bool (lexLt ns ms) ≠ Value.notImplemented ∧ Q (.bool (lexLt ns ms)) s from ⟨(fun x => nomatch x),h⟩⟩ hu

theorem Jzk {t b : Addr} {vs ws : List Value} {Q : Value → Shared → Prop} (ht : IsTup s.heap t vs.toArray) (hb : IsTup s.heap b ws.toArray) (hv : vs ≠ [])
    (h1 : ws = [] → Q (.ref t) s) (h2 : ws ≠ [] → Q (.ref s.heap.objs.size) { s with heap := s.heap.push { cls := .type "tuple",data := .seq (vs ++ ws).toArray } })
    (hsz : vs.length + ws.length ≤ sizeLine) : wpAny (model prog w) A (binaryOp .Add (.ref t) (.ref b)) Q E s := by
  obtain ⟨⟨cls,dd,data,sl⟩,ho,hc,n,hd⟩ := id ht
  obtain ⟨⟨cls2,dd2,data2,sl2⟩,ho2,hc2,n2,hd2⟩ := id hb
  simp only at hc hd hc2 hd2
  subst hc hd hc2 hd2
  have e : vs.toArray ++ ws.toArray = (vs ++ ws).toArray := by simp
  by_cases hw : ws = []
  · exact concat_meets ⟨_,ho,rfl⟩ ⟨_,ho2,rfl⟩ noFill_tuple_add seq_tuple_add PySem.F.slot_tuple_add PySem.F.entry_tuple_add (PySem.F.args_tuple_add_2 _ _)
      (tuple_addW1 t b vs.toArray ws.toArray n n2 dd dd2 sl sl2 (by simpa using hv) (by simp [hw])) ⟨ho,ho2,h1 hw⟩
  · refine concat_meets ⟨_,ho,rfl⟩ ⟨_,ho2,rfl⟩ noFill_tuple_add seq_tuple_add PySem.F.slot_tuple_add PySem.F.entry_tuple_add (PySem.F.args_tuple_add_2 _ _)
      (tuple_addW2 t b vs.toArray ws.toArray n n2 dd dd2 sl sl2 (by simpa using hv) (by simpa using hw) (by rw [List.size_toArray,List.size_toArray]; exact hsz)) ⟨ho,ho2,?_⟩
    rw [e]
    exact h2 hw

def sIx (n d : Nat) : Option Int → Nat
  | none => d
  | some v => if v < 0 then (v + (n : Int)).toNat else min v.toNat n
theorem Jz2 (n d : Nat) (hd : d ≤ n) (o : Option Int) : sIx n d o ≤ n := by
  cases o with
  | none => exact hd
  | some v =>
    show (if v < 0 then (v + (n : Int)).toNat else min v.toNat n) ≤ n
    by_cases hv : v < 0
    · rw [if_pos hv]; omega
    · rw [if_neg hv]; exact Nat.min_le_right _ _
theorem Jti (v : Int) (n d : Nat) : (if v < 0 then max (v + (n : Int)) 0 else min v (n : Int)) = ((sIx n d (some v) : Nat) : Int) := by
  show (if v < 0 then max (v + (n : Int)) 0 else min v (n : Int)) = (((if v < 0 then (v + (n : Int)).toNat else min v.toNat n) : Nat) : Int)
  by_cases hv : v < 0
  · simp only [if_pos hv]; omega
  · simp only [if_neg hv]; omega
theorem Jrb (lo hi : Option Int) (n : Nat) : Builtin.Slice.sliceAdjust lo hi 1 (n : Int) = (((sIx n 0 lo : Nat) : Int),((sIx n n hi : Nat) : Int)) := by
  have h1 : ¬ ((1 : Int) < 0) := by omega
  unfold Builtin.Slice.sliceAdjust
  simp only [h1,if_false]
  refine Prod.ext ?_ ?_
  · cases lo with
    | none => rfl
    | some v => exact Jti v n 0
  · cases hi with
    | none => rfl
    | some v => exact Jti v n n
theorem Jqr (i j : Nat) : Builtin.Slice.slicePlaces (i : Int) (j : Int) 1 = j - i := by
  unfold Builtin.Slice.slicePlaces
  have h1 : (1 : Int) > 0 := by omega
  simp only [h1,if_true,Int.ediv_one]
  split <;> omega
theorem Jlc {v : Value} {o : Option Int} {Q : Option Int → Shared → Prop} (p : IsPart v o) (h : Q o s) : wpAny (model prog w) A (Builtin.Slice.slicePartIndex v) Q E s := by
  cases p with
  | none => exact slicePart_none h
  | int i t => exact slicePart_int h
theorem Jgm {sl : Addr} {vl vu : Value} {lo hi : Option Int} {n : Nat} {Q : Int × Int × Nat → Shared → Prop} (hs : s.heap.IsSliceOf sl vl vu .none) (pl : IsPart vl lo) (pu : IsPart vu hi)
    (h : Q (((sIx n 0 lo : Nat) : Int),1,sIx n n hi - sIx n 0 lo) s) : wpAny (model prog w) A (Builtin.Slice.sliceApplied (.ref sl) (pure (n : Int))) Q E s := by
  obtain ⟨os,hos,hcs,hds⟩ := id hs
  unfold Builtin.Slice.sliceApplied Builtin.Slice.sliceFields
  refine wpAny_bind (wpAny_bind (wpAny_field hos hds (x := vl) rfl (wpAny_bind (wpAny_field hos hds (x := vu) rfl (wpAny_bind (wpAny_field hos hds (x := .none) rfl (wpAny_pure ?_)))))))
  refine wpAny_bind (slicePart_none ?_)
  show wpAny _ _ (if ((1 : Int) == 0) = true then _ else _) _ _ s
  rw [if_neg (by decide)]
  refine wpAny_bind (Jlc pl (wpAny_bind (Jlc pu (wpAny_bind (wpAny_pure ?_)))))
  show wpAny _ _ (match Builtin.Slice.sliceAdjust lo hi 1 (n : Int) with | (lo,hi) => pure (lo,(1 : Int),Builtin.Slice.slicePlaces lo hi 1)) _ _ s
  rw [Jrb lo hi n]
  show wpAny _ _ (pure (((sIx n 0 lo : Nat) : Int),(1 : Int),Builtin.Slice.slicePlaces ((sIx n 0 lo : Nat) : Int) ((sIx n n hi : Nat) : Int) 1)) _ _ s
  rw [Jqr]
  exact wpAny_pure h
theorem Jux (xs : Array Value) (i k : Nat) : ((List.range k).filterMap fun (m : Nat) => xs[((i : Int) + (m : Int) * 1).toNat]?).toArray = ((xs.toList.drop i).take k).toArray := by
  have e : (fun (m : Nat) => xs[((i : Int) + (m : Int) * 1).toNat]?) = fun m => xs[i + m]? := by
    funext m
    have : ((i : Int) + (m : Int) * 1).toNat = i + m := by omega
    rw [this]
  rw [e]
  have := pick_run xs i k
  rw [List.filterMap_map] at this
  have e2 : ((fun x => xs[x]?) ∘ fun x => i + x) = fun m => xs[i + m]? := rfl
  rw [e2] at this
  rw [this]

theorem Jix {t sl : Addr} {items : Array Value} {vl vu : Value} {lo hi : Option Int} {Q : Value → Shared → Prop} (ht : IsTup s.heap t items) (hs : s.heap.IsSliceOf sl vl vu .none) (pl : IsPart vl lo) (pu : IsPart vu hi)
    (hw : ¬ (sIx items.size 0 lo = 0 ∧ sIx items.size items.size hi = items.size))
    (h : Q (.ref s.heap.objs.size) { s with heap := s.heap.push { cls := .type "tuple",data := .seq ((items.toList.drop (sIx items.size 0 lo)).take (sIx items.size items.size hi - sIx items.size 0 lo)).toArray } })
    (hsz : items.size ≤ sizeLine) : wpAny (model prog w) A (getItem (.ref t) (.ref sl)) Q E s := by
  have htake : sizeOk (.seq ((items.toList.drop (sIx items.size 0 lo)).take (sIx items.size items.size hi - sIx items.size 0 lo)).toArray) := by
    show ((items.toList.drop (sIx items.size 0 lo)).take (sIx items.size items.size hi - sIx items.size 0 lo)).toArray.size ≤ sizeLine
    rw [List.size_toArray,List.length_take,List.length_drop,Array.length_toList]
    omega
  have hj : sIx items.size items.size hi ≤ items.size := Jz2 _ _ (Nat.le_refl _) hi
  obtain ⟨os,hos,hcs,hds⟩ := id hs
  have hTs : s.TypeIs (.ref sl) "slice" := ⟨os,hos,hcs⟩
  unfold getItem
  try with_reducible refine wpAny_holding ?_
  first | refine wpAny_bind (wpAny_pure ?_) | skip
  refine wpAny_bind (wpAny_sequenceKey ht.typeIs (by decide) ?_)
  refine wpAny_bind (wpAny_callSpecial?_slot (name := Str.ofString "__getitem__") ht.typeIs PyProof.Rows.slot_tuple_getitem
    (wpAny_call_entry PyProof.Rows.slot_tuple_getitem ht.typeIs entry_tuple_getitem ?_ (args_tuple_getitem _ _)))
  show wpAny _ _ (Builtin.Tuple.tupleItemsOf (.ref t) >>= _) _ _ s
  refine wpAny_bind (tupleItemsOf_ ht ?_)
  refine wpAny_bind (wpAny_typeOf hTs ?_)
  rw [if_pos (by decide)]
  refine wpAny_bind (Jgm hs pl pu ?_)
  have hno : ¬ ((((sIx items.size 0 lo : Nat) : Int) == 0 && (1 : Int) == 1 && (sIx items.size items.size hi - sIx items.size 0 lo) == items.size) = true) := by
    intro q
    rw [Bool.and_eq_true,Bool.and_eq_true] at q
    have q1 : ((sIx items.size 0 lo : Nat) : Int) = 0 := eq_of_beq q.1.1
    have q2 : sIx items.size items.size hi - sIx items.size 0 lo = items.size := eq_of_beq q.2
    exact hw ⟨by omega,by omega⟩
  show wpAny _ _ (if (((sIx items.size 0 lo : Nat) : Int) == 0 && (1 : Int) == 1 && (sIx items.size items.size hi - sIx items.size 0 lo) == items.size) = true then _ else _) _ _ s
  rw [if_neg hno,Jux]
  first
    | exact wpAny_bind (m := Builtin.Tuple.tupleExact _) (wpAny_newObj_type (wpAny_pure ⟨_,rfl,wpAny_pure h⟩) htake)
    | exact wpAny_bind (m := Builtin.Tuple.tupleExact _) (wpAny_newObj_type (wpAny_bind (wpAny_pure (wpAny_pure ⟨_,rfl,wpAny_pure h⟩))) htake)
    | exact wpAny_bind (wpAny_bind (m := Builtin.Tuple.tupleExact _) (wpAny_newObj_type (wpAny_pure (wpAny_pure ⟨_,rfl,wpAny_pure h⟩)) htake))
    | exact wpAny_bind (wpAny_bind (m := Builtin.Tuple.tupleExact _) (wpAny_newObj_type (wpAny_pure ⟨_,rfl,wpAny_pure h⟩) htake))
end
end HT

namespace L2
open PySem PySem.Spec PyProof.Rows

abbrev TO := St → Hp → (Option Int → Hp → Prop) → Prop
def PO (X : Cx) (e : Option Expr) (t : TO) : Prop :=
  ∀ (pins : List (Addr × Obj)) (s : Shared) (σ : St) (H : Hp) (Q : Option Int → Hp → Prop),Inv X pins σ H s → t σ H Q →
    wpAny (model X.prog X.w) X.A (evalPart e X.env) (fun u s' => ∃ o H',Inv X pins σ H' s' ∧ IsPart u o ∧ Q o H') X.xe s
def Jxj : TO := fun _ H Q => Q none H
def JCm (t : TE) : TO := fun σ H Q => t σ H fun x H1 => ∃ i,x = .int i ∧ Q (some i) H1

theorem intsAre_of {ns : List Int} : ∀ {us : List Value},Vals (ns.map V.int) us → IntsAre us ns := by
  induction ns with
  | nil => intro us r; rw [List.map_nil] at r; cases r; exact .nil
  | cons n ns ih =>
    intro us r
    rw [List.map_cons] at r
    cases r with
    | cons r1 r2 =>
      obtain ⟨t,e⟩ := r1
      subst e
      exact .cons n t (ih r2)

section
variable {X : Cx} {e : Expr} {te : TE} {lo hi : Option Expr} {tl th : TO} {pos p2 : Pos}

theorem Jx5 : PO X none Jxj := by
  intro pins s σ H Q I h
  rw [evalPart_none]
  exact wpAny_pure ⟨none,H,I,.none,h⟩
theorem Jx4 (h : PE X e te) : PO X (some e) (JCm te) := by
  intro pins s σ H Q I hw
  rw [evalPart_some]
  refine thn (h pins s σ H _ I hw) fun u s1 ⟨x,H1,I1,r1,q1⟩ => ?_
  obtain ⟨i,rfl,q⟩ := q1
  obtain ⟨t,rfl⟩ := r1
  exact ⟨some i,H1,I1,.int i t,q⟩

def SlR (X : Cx) (r : V → Option Int → Option Int → Hp → VK → Prop) : Prop :=
  ∀ (pins : List (Addr × Obj)) (s : Shared) (σ : St) (H : Hp) (x : V) (v vl vu : Value) (lo hi : Option Int) (sl : Addr) (Q : VK),Inv X pins σ H s → RelV x v → s.heap.IsSliceOf sl vl vu .none → IsPart vl lo → IsPart vu hi → r x lo hi H Q →
    ∃ T id,typeLookup (.type T) "__getitem__" = pure (some (.builtin id)) ∧ s.TypeIs v T ∧ wpAny (model X.prog X.w) X.A (getItem v (.ref sl)) (EP X pins σ Q) X.xe s
theorem SlR.or {r r' : V → Option Int → Option Int → Hp → VK → Prop} (h : SlR X r) (h' : SlR X r') : SlR X (fun x lo hi H Q => r x lo hi H Q ∨ r' x lo hi H Q) := by
  intro pins s σ H x v vl vu lo hi sl Q I rx hs pl pu q
  rcases q with q | q
  · exact h pins s σ H x v vl vu lo hi sl Q I rx hs pl pu q
  · exact h' pins s σ H x v vl vu lo hi sl Q I rx hs pl pu q
def tSl (r : V → Option Int → Option Int → Hp → VK → Prop) (te : TE) (tl th : TO) : TE := fun σ H Q => te σ H fun x H1 => tl σ H1 fun l H2 => th σ H2 fun u H3 => r x l u H3 Q
theorem Juz {r : V → Option Int → Option Int → Hp → VK → Prop} (hr : SlR X r) (he : PE X e te) (hl : PO X lo tl) (hu : PO X hi th) : PE X (.Subscript e (.Slice lo hi none p2) pos) (tSl r te tl th) := by
  intro pins s σ H Q I h
  refine Subscript_ (thn (he pins s σ H _ I h) fun v s1 ⟨x,H1,I1,r1,q1⟩ => ?_)
  refine wpAny_Slice (thn (hl pins s1 σ H1 _ I1 q1) fun vl s2 ⟨l,H2,I2,pl,q2⟩ => thn (hu pins s2 σ H2 _ I2 q2) fun vu s3 ⟨u,H3,I3,pu,q3⟩ => ?_)
  rw [evalPart_none]
  refine wpAny_pure ?_
  have I4 : Inv X pins σ H3 { s3 with heap := s3.heap.push { cls := .type "slice",data := .fields #[vl,vu,.none] } } := I3.kept (t' := s3.toks) fun b ob q => Heap.get?_push_of_some _ q
  obtain ⟨T,id,hT,ht,hg⟩ := hr pins { s3 with heap := s3.heap.push { cls := .type "slice",data := .fields #[vl,vu,.none] } } σ H3 x v vl vu l u s3.heap.objs.size Q I4 r1 (Heap.IsSliceOf.new ..) pl pu q3
  show wpAny (model X.prog X.w) X.A (subscriptTail e (.Slice lo hi none p2) v (.ref s3.heap.objs.size)) (EP X pins σ Q) X.xe { s3 with heap := s3.heap.push { cls := .type "slice",data := .fields #[vl,vu,.none] } }
  exact tail_any (ops := [.ref s3.heap.objs.size,v]) ht hT hg (by with_unfolding_all rfl)

def cutV (xs : List V) (lo hi : Option Int) : List V := (xs.drop (HT.sIx xs.length 0 lo)).take (HT.sIx xs.length xs.length hi - HT.sIx xs.length 0 lo)
theorem Jkt (xs : List V) (lo hi : Option Int) : (cutV xs lo hi).length ≤ xs.length := by
  unfold cutV
  rw [List.length_take,List.length_drop]
  omega
def rSlT (K : PySem.W.Frag) : V → Option Int → Option Int → Hp → VK → Prop := fun x lo hi H Q => ∃ a xs,x = .ref a ∧ SqT K H a xs ∧
  ¬ (HT.sIx xs.length 0 lo = 0 ∧ HT.sIx xs.length xs.length hi = xs.length) ∧ ∀ p,H p = none → Q (.ref p) (upd H p (.tup (cutV xs lo hi)))
theorem Jzz : SlR X (rSlT X.K) := by
  intro pins s σ H x v vl vu lo hi sl Q I rx hs pl pu h
  obtain ⟨a,xs,rfl,hx,hw,q⟩ := h
  cases rx
  obtain ⟨its,r,ht,hz⟩ := I.tuple hx
  have hlen : its.toArray.size = xs.length := by rw [List.size_toArray]; exact r.length.symm
  refine ⟨"tuple",_,PyProof.Rows.slot_tuple_getitem.lookup,ht.typeIs,?_⟩
  refine HT.Jix ht hs pl pu (by rw [hlen]; exact hw) ?_ (by rw [hlen]; exact hz)
  rw [hlen]
  refine ⟨.ref s.heap.objs.size,_,I.laid (t' := s.toks) (o := .tup (cutV xs lo hi)) (fun b ob q => Heap.get?_push_of_some _ q) (Nat.le_refl _) ?_,rfl,q _ (I.hok.fresh (Nat.le_refl _))⟩
  exact ⟨Nat.le_trans (Jkt xs lo hi) hz,_,(r.drop (HT.sIx xs.length 0 lo)).take (HT.sIx xs.length xs.length hi - HT.sIx xs.length 0 lo),IsTup.new _ _⟩

def rLtT (K : PySem.W.Frag) : R2 := fun x y H Q => ∃ a b ns ms,x = .ref a ∧ y = .ref b ∧ SqT K H a (ns.map V.int) ∧ SqT K H b (ms.map V.int) ∧ Q (.bl (HT.lexLt ns ms)) H
theorem JAv (hu : X.A.units < cLine) : OpR X (compareOp .Lt) (rLtT X.K) := by
  intro pins s σ H x y v u Q I rx ry h
  obtain ⟨a,b,ns,ms,rfl,rfl,ha,hb,q⟩ := h
  cases rx
  cases ry
  obtain ⟨its,r1,p1,_⟩ := I.tuple ha
  obtain ⟨its2,r2,p2,_⟩ := I.tuple hb
  have i1 : IntsAre its.toArray.toList ns := intsAre_of r1
  have i2 : IntsAre its2.toArray.toList ms := intsAre_of r2
  exact HT.Jqx p1 p2 i1 i2 hu ⟨.bl (HT.lexLt ns ms),H,I,rfl,q⟩
def JCu (K : PySem.W.Frag) : R2 := fun x y H Q => ∃ a b xs ys,x = .ref a ∧ y = .ref b ∧ SqT K H a xs ∧ SqT K H b ys ∧ xs ≠ [] ∧ xs.length + ys.length ≤ sizeLine ∧
  (ys = [] → Q (.ref a) H) ∧ (ys ≠ [] → ∀ p,H p = none → Q (.ref p) (upd H p (.tup (xs ++ ys))))
theorem Vals.Jmc {xs : List V} {us : List Value} (r : Vals xs us) : us = [] ↔ xs = [] := by
  cases r with
  | nil => simp
  | cons _ _ => simp
theorem Jyf : OpR X (binaryOp .Add) (JCu X.K) := by
  intro pins s σ H x y v u Q I rx ry h
  obtain ⟨a,b,xs,ys,rfl,rfl,ha,hb,hx,hz,q1,q2⟩ := h
  cases rx
  cases ry
  obtain ⟨its,r1,p1,_⟩ := I.tuple ha
  obtain ⟨its2,r2,p2,_⟩ := I.tuple hb
  refine HT.Jzk p1 p2 (fun z => hx (r1.Jmc.mp z)) (fun z => ⟨.ref a,H,I,rfl,q1 (r2.Jmc.mp z)⟩) (fun z => ?_) (by rw [← r1.length,← r2.length]; exact hz)
  refine ⟨.ref s.heap.objs.size,_,I.laid (t' := s.toks) (o := .tup (xs ++ ys)) (fun b ob q => Heap.get?_push_of_some _ q) (Nat.le_refl _) ?_,rfl,q2 (fun w => z (r2.Jmc.mpr w)) _ (I.hok.fresh (Nat.le_refl _))⟩
  exact ⟨by rw [List.length_append]; exact hz,_,r1.append r2,IsTup.new _ _⟩
end
end L2

namespace L2
open PySem PySem.Spec PyProof.Rows

def ixN (n : Nat) (i : Int) : Option Nat := if 0 ≤ i then (if i < n then some i.toNat else none) else if -(n : Int) ≤ i then some (i + n).toNat else none
def atI {α : Type} (xs : List α) (i : Int) : Option α := (ixN xs.length i).bind fun j => xs[j]?
theorem Jsx {n : Nat} {i : Int} {j : Nat} (h : ixN n i = some j) : seqIndex? i n = some j ∧ j < n ∧ -(n : Int) ≤ i ∧ i < n := by
  unfold ixN at h
  by_cases h0 : 0 ≤ i
  · rw [if_pos h0] at h
    by_cases h1 : i < n
    · rw [if_pos h1] at h
      have e : i.toNat = j := Option.some.inj h
      exact ⟨by rw [seqIndex_of h0 h1,e],by omega,by omega,h1⟩
    · rw [if_neg h1] at h; cases h
  · rw [if_neg h0] at h
    by_cases h1 : -(n : Int) ≤ i
    · rw [if_pos h1] at h
      have e : (i + n).toNat = j := Option.some.inj h
      exact ⟨by rw [seqIndex_neg (by omega) h1,e],by omega,h1,by omega⟩
    · rw [if_neg h1] at h; cases h
theorem Jpf {α : Type} {xs : List α} {i : Int} {v : α} (h : atI xs i = some v) : ∃ j,seqIndex? i xs.length = some j ∧ xs[j]? = some v ∧ j < xs.length ∧ -(xs.length : Int) ≤ i ∧ i < xs.length := by
  unfold atI at h
  cases e : ixN xs.length i with
  | none => rw [e] at h; cases h
  | some j =>
    rw [e] at h
    obtain ⟨h1,h2,h3,h4⟩ := Jsx e
    exact ⟨j,h1,h,h2,h3,h4⟩
theorem Jh3 {α : Type} {xs : List α} {j : Nat} {v : α} (h : xs[j]? = some v) : atI xs (j : Int) = some v := by
  have hj : j < xs.length := (List.getElem?_eq_some_iff.mp h).1
  have e : ixN xs.length (j : Int) = some j := by
    unfold ixN
    rw [if_pos (by omega),if_pos (by omega)]; simp
  unfold atI; rw [e]; exact h
def Jmz (b : Expr) : Prop := ∀ o i,subscripted b false o i = operate [o,i] (getItem o i)
def IxR (X : Cx) (r : R2) : Prop :=
  ∀ (value slice : Expr) (pins : List (Addr × Obj)) (s : Shared) (σ : St) (H : Hp) (x y : V) (v u : Value) (Q : VK),Inv X pins σ H s → RelV x v → RelV y u → r x y H Q →
    subscripted slice false v u = operate [v,u] (getItem v u) → wpAny (model X.prog X.w) X.A (subscriptTail value slice v u) (EP X pins σ Q) X.xe s
def MtR (X : Cx) (id : String) (r : V → List V → Hp → VK → Prop) : Prop :=
  ∀ (pins : List (Addr × Obj)) (s : Shared) (σ : St) (H : Hp) (x : V) (xs : List V) (v : Value) (us : List Value) (Q : VK),Inv X pins σ H s → RelV x v → Vals xs us → r x xs H Q →
    wpAny (model X.prog X.w) X.A (call (.builtin id) (v :: us)) (EP X pins σ Q) X.xe s
section
variable {X : Cx} {a b : Expr} {ta tb : TE} {pos : Pos}
theorem IxR.or {r r' : R2} (h : IxR X r) (h' : IxR X r') : IxR X (fun x y H Q => r x y H Q ∨ r' x y H Q) := by
  intro value slice pins s σ H x y v u Q I rx ry q hs
  rcases q with q | q
  · exact h value slice pins s σ H x y v u Q I rx ry q hs
  · exact h' value slice pins s σ H x y v u Q I rx ry q hs
theorem MtR.or {id : String} {r r' : V → List V → Hp → VK → Prop} (h : MtR X id r) (h' : MtR X id r') : MtR X id (fun x xs H Q => r x xs H Q ∨ r' x xs H Q) := by
  intro pins s σ H x xs v us Q I rx rs q
  rcases q with q | q
  · exact h pins s σ H x xs v us Q I rx rs q
  · exact h' pins s σ H x xs v us Q I rx rs q
theorem JC0 {r : R2} (hr : IxR X r) (ha : PE X a ta) (hb : PE X b tb) (hs : Jmz b) : PE X (.Subscript a b pos) (tOp r ta tb) := by
  intro pins s σ H Q I h
  exact Subscript_ (binT ha hb I h fun v u s2 x y H2 I2 rx ry q => hr a b pins s2 σ H2 x y v u Q I2 rx ry q (hs _ _))

def rIxL (K : PySem.W.Frag) : R2 := fun x y H Q => ∃ p xs i v,x = .ref p ∧ y = .int i ∧ SqL K H p xs ∧ atI xs i = some v ∧ Q v H
def rIxT (K : PySem.W.Frag) : R2 := fun x y H Q => ∃ p xs i v,x = .ref p ∧ y = .int i ∧ SqT K H p xs ∧ atI xs i = some v ∧ Q v H
def rIxS : R2 := fun x y H Q => ∃ z i c,x = .str z ∧ y = .int i ∧ z.length ≤ sizeLine ∧ atI z.cps.toList i = some c ∧ Q (.str ⟨#[c]⟩) H
theorem Jyv : IxR X (rIxL X.K) := by
  intro value slice pins s σ H x y v u Q I rx ry h hs
  obtain ⟨p,xs,i,z,rfl,rfl,hq,he,q⟩ := h
  cases rx
  obtain ⟨t,rfl⟩ := ry
  obtain ⟨its,r,pl,hz⟩ := I.list hq
  obtain ⟨j,h1,h2,h3,h4,h5⟩ := Jpf he
  obtain ⟨w,ew,rw'⟩ := r.get h2
  have hl := r.length
  have hn := Jnr
  have fin : EP X pins σ Q w s := ⟨z,H,I,rw',q⟩
  by_cases h0 : 0 ≤ i
  · have hj : i.toNat = j := by
      rw [seqIndex_of h0 h5] at h1
      exact Option.some.inj h1
    exact item_listR pl.isList h0 (by omega) (by rw [hj]; simpa using ew) fin hs
  · have hj : (i + (its.toArray.size : Int)).toNat = j := by
      rw [seqIndex_neg (by omega) h4] at h1
      rw [List.size_toArray,← hl]
      exact Option.some.inj h1
    exact subscriptTail_builtinR (x := w) pl.isList.typeIs slot_list_getitem.lookup
      (wpAny_getItem_list_neg (Q := fun r s' => r = w ∧ EP X pins σ Q r s') pl.isList (by omega) (by rw [List.size_toArray] <;> omega) (by omega) (by rw [hj]; simpa using ew) ⟨rfl,fin⟩) hs
theorem JBh : IxR X (rIxT X.K) := by
  intro value slice pins s σ H x y v u Q I rx ry h hs
  obtain ⟨p,xs,i,z,rfl,rfl,hq,he,q⟩ := h
  cases rx
  obtain ⟨t,rfl⟩ := ry
  obtain ⟨its,r,pl,hz⟩ := I.tuple hq
  obtain ⟨j,h1,h2,h3,h4,h5⟩ := Jpf he
  obtain ⟨w,ew,rw'⟩ := r.get h2
  have hl := r.length
  have hn := Jnr
  have fin : EP X pins σ Q w s := ⟨z,H,I,rw',q⟩
  exact subscriptTail_builtinR (x := w) pl.typeIs slot_tuple_getitem.lookup
    (getItem_tuple (j := j) (Q := fun r s' => r = w ∧ EP X pins σ Q r s') pl (by omega) (by omega) (by rw [List.size_toArray,← hl]; exact h1) (by simpa using ew) ⟨rfl,fin⟩) hs
theorem JBi : IxR X rIxS := by
  intro value slice pins s σ H x y v u Q I rx ry h hs
  obtain ⟨z,i,c,rfl,rfl,hz,he,q⟩ := h
  obtain ⟨t,rfl⟩ := rx
  obtain ⟨t',rfl⟩ := ry
  obtain ⟨j,h1,h2,h3,h4,h5⟩ := Jpf he
  have hl : z.cps.toList.length = z.length := by simp [Str.length]
  rw [hl] at h1 h4 h5
  have hn := Jnr
  exact tail_any (typeIs_str s z t) slot_str_getitem.lookup (getItem_str (c := c) (by
    have e1 : decide (i < -(2 ^ 63 : Int)) = false := decide_eq_false (by omega)
    have e2 : decide (i ≥ 2 ^ 63) = false := decide_eq_false (by omega)
    rw [e1,e2,Bool.or_false]) (by rw [h1]; simpa using h2) ⟨.str ⟨#[c]⟩,H,I.tok _,⟨_,rfl⟩,q⟩) hs
def rIx (K : PySem.W.Frag) : R2 := fun x y H Q => rIxL K x y H Q ∨ rIxT K x y H Q ∨ rIxS x y H Q
theorem Ja1 : IxR X (rIx X.K) := Jyv.or (JBh.or JBi)

theorem Jqw (its : List Value) (n j : Nat) (u : Value) : Obj.mapSeq (·.setIfInBounds j u) { cls := .type "list",data := .seq its.toArray n } = { cls := .type "list",data := .seq (its.set j u).toArray n } := by
  simp [Obj.mapSeq]
theorem Inv.lst {pins : List (Addr × Obj)} {σ : St} {H : Hp} {s : Shared} {p : Addr} {xs : List V} (I : Inv X pins σ H s) (h : H p = some (.lst xs)) :
    ∃ (its : List Value) (n : Nat),Vals xs its ∧ s.heap.get? p = some { cls := .type "list",data := .seq its.toArray n } ∧ xs.length ≤ sizeLine := by
  obtain ⟨z,its,n,r,e⟩ := I.hok p _ h
  exact ⟨its,n,r,e,z⟩
theorem Inv.JA7 {pins : List (Addr × Obj)} {σ : St} {H : Hp} {s : Shared} {p : Addr} {xs ys : List V} {its its' : List Value} {n n' : Nat} {f : Obj → Obj} (I : Inv X pins σ H s) (h : H p = some (.lst xs))
    (ho : s.heap.get? p = some { cls := .type "list",data := .seq its.toArray n }) (hf : f { cls := .type "list",data := .seq its.toArray n } = { cls := .type "list",data := .seq its'.toArray n' }) (r : Vals ys its') (hz : ys.length ≤ sizeLine) (t : Nat) :
    Inv X pins σ (upd H p (.lst ys)) { s with heap := s.heap.update p f,toks := t } := by
  have e : (s.heap.update p f).get? p = some { cls := .type "list",data := .seq its'.toArray n' } := by
    rw [Heap.get?_update_self f ho (by rw [hf] <;> rfl),hf]
  refine I.write (x := p) (e := p) (by rw [h]; trivial) (.inl rfl) (fun b u hb q => (Heap.get?_update_other _ _ (Ne.symm hb)).trans q) ⟨_,e⟩ ?_
  exact ⟨hz,its',n',r,e⟩
def JCs : V → V → V → Hp → (Hp → Prop) → Prop := fun o i v H Q => ∃ p xs k j,o = .ref p ∧ i = .int k ∧ H p = some (.lst xs) ∧ ixN xs.length k = some j ∧ Q (upd H p (.lst (xs.set j v)))
theorem set_list : PSet X JCs := by
  intro pins s σ H o i v ov iv u Q I ro ri rv h
  obtain ⟨p,xs,k,j,rfl,rfl,hp,hj,q⟩ := h
  cases ro
  obtain ⟨t,rfl⟩ := ri
  obtain ⟨its,n,r,ho,hz⟩ := I.lst hp
  obtain ⟨h1,h2,h3,h4⟩ := Jsx hj
  have hl := r.length
  have hn := Jnr
  have I' : Inv X pins σ (upd H p (.lst (xs.set j v))) { s with heap := s.heap.update p (Obj.mapSeq (·.setIfInBounds j u)) } :=
    I.JA7 hp ho (Jqw its n j u) (r.set rv j) (by rw [List.length_set]; exact hz) s.toks
  by_cases h0 : 0 ≤ k
  · have hk : k.toNat = j := by
      rw [seqIndex_of h0 h4] at h1
      exact Option.some.inj h1
    exact PySem.W.ki_setAt ho h0 (by omega) (by rw [List.size_toArray,← hl]; exact h4) (by rw [hk]; exact ⟨_,I',q⟩)
  · have hk : (k + (its.toArray.size : Int)).toNat = j := by
      rw [seqIndex_neg (by omega) h3] at h1
      rw [List.size_toArray,← hl]
      exact Option.some.inj h1
    exact PySem.W.ki_setBack ho (by omega) (by rw [List.size_toArray,← hl]; exact h3) (by omega) (by rw [hk]; exact ⟨_,I',q⟩)

theorem Jm8 (lo hi : Option Int) (n : Nat) : (sliceBounds lo hi none n).1 = ((HT.sIx n 0 lo : Nat) : Int) ∧ (sliceBounds lo hi none n).2.1 = ((HT.sIx n n hi : Nat) : Int) ∧ (sliceBounds lo hi none n).2.2 = 1 := by
  refine ⟨?_,?_,rfl⟩
  · cases lo with
    | none => simp [sliceBounds,HT.sIx]
    | some i =>
      simp only [sliceBounds,HT.sIx,Option.getD_none,show (1 : Int) > 0 by decide,if_true]
      by_cases h : i < 0
      · simp only [h,if_true] <;> omega
      · simp only [h,if_false] <;> omega
  · cases hi with
    | none => simp [sliceBounds,HT.sIx]
    | some i =>
      simp only [sliceBounds,HT.sIx,Option.getD_none,show (1 : Int) > 0 by decide,if_true]
      by_cases h : i < 0
      · simp only [h,if_true] <;> omega
      · simp only [h,if_false] <;> omega
theorem Jl3 (its : List Value) (lo hi : Option Int) : slicePick its.toArray lo hi none = ((its.drop (HT.sIx its.length 0 lo)).take (HT.sIx its.length its.length hi - HT.sIx its.length 0 lo)).toArray := by
  obtain ⟨h1,h2,h3⟩ := Jm8 lo hi its.toArray.size
  unfold slicePick
  rw [h1,h2,h3]
  simp only [sliceRange_one,pick_run,List.size_toArray] <;> rfl
def rSlL (K : PySem.W.Frag) : V → Option Int → Option Int → Hp → VK → Prop := fun x lo hi H Q => ∃ a xs,x = .ref a ∧ SqL K H a xs ∧ ∀ p,H p = none → Q (.ref p) (upd H p (.lst (cutV xs lo hi)))
theorem Jxm : SlR X (rSlL X.K) := by
  intro pins s σ H x v vl vu lo hi sl Q I rx hs pl pu h
  obtain ⟨a,xs,rfl,hx,q⟩ := h
  cases rx
  obtain ⟨its,r,ht,hz⟩ := I.list hx
  have hlen := r.length
  refine ⟨"list",_,slot_list_getitem.lookup,ht.isList.typeIs,?_⟩
  refine wpAny_getItem_list_slice ht.isList hs pl pu .none (by simp) ?_ (by rw [List.size_toArray] <;> omega)
  rw [Jl3,← hlen]
  refine ⟨.ref s.heap.objs.size,_,I.laid (t' := s.toks) (o := .lst (cutV xs lo hi)) (fun b ob q => Heap.get?_push_of_some _ q) (Nat.le_refl _) ?_,rfl,q _ (I.hok.fresh (Nat.le_refl _))⟩
  exact ⟨Nat.le_trans (Jkt xs lo hi) hz,_,0,(r.drop (HT.sIx xs.length 0 lo)).take (HT.sIx xs.length xs.length hi - HT.sIx xs.length 0 lo),Heap.get?_push_size _ rfl⟩

theorem Jaw : Jdp X (.builtin "len") (fun xs H Q => ∃ p ys,xs = [.ref p] ∧ (SqL X.K H p ys ∨ SqT X.K H p ys) ∧ Q (.int ys.length) H) := by
  intro pins s σ H xs us Q I r h
  obtain ⟨p,ys,rfl,hq,q⟩ := h
  obtain ⟨u,rfl,rx⟩ := vals1 r
  cases rx
  have hn := Jnr
  rcases hq with hq | hq
  · obtain ⟨its,r',pl,hz⟩ := I.list hq
    have hlen := r'.length
    exact Calls.call_len_list pl.isList (by simp only [List.size_toArray] <;> omega) ⟨.int ys.length,H,I.tok _,⟨s.toks + 1,by rw [List.size_toArray,hlen]⟩,q⟩
  · obtain ⟨its,r',pl,hz⟩ := I.tuple hq
    have hlen := r'.length
    exact len_tuple pl (by simp only [List.size_toArray] <;> omega) ⟨.int ys.length,H,I.tok _,⟨s.toks + 1,by rw [List.size_toArray,hlen]⟩,q⟩
theorem Jdp.or {f : Value} {r r' : List V → Hp → VK → Prop} (h : Jdp X f r) (h' : Jdp X f r') : Jdp X f (fun xs H Q => r xs H Q ∨ r' xs H Q) := by
  intro pins s σ H xs us Q I rs q
  rcases q with q | q
  · exact h pins s σ H xs us Q I rs q
  · exact h' pins s σ H xs us Q I rs q
theorem Jod : Jdp X (.type "list") (fun xs H Q => ∃ p ys,xs = [.ref p] ∧ (SqL X.K H p ys ∨ SqT X.K H p ys) ∧ ∀ l,H l = none → Q (.ref l) (upd H l (.lst ys))) := by
  intro pins s σ H xs us Q I r h
  obtain ⟨p,ys,rfl,hq,q⟩ := h
  obtain ⟨u,rfl,rx⟩ := vals1 r
  cases rx
  have fin : ∀ (its : List Value),Vals ys its → ys.length ≤ sizeLine → ∀ (h' : Heap) (c' : Nat),(∀ b o',s.heap.get? b = some o' → h'.get? b = some o') →
      h'.get? s.heap.objs.size = some { cls := .type "list",dict := none,data := .seq its.toArray c',slots := #[] } → EP X pins σ Q (.ref s.heap.objs.size) { s with heap := h' } := fun its r' hz h' c' kp e =>
    ⟨.ref s.heap.objs.size,_,I.laid (t' := s.toks) kp (Nat.le_refl _) (show Jd1 X.prog X.w _ h' _ (.lst ys) from ⟨hz,its,c',r',e⟩),rfl,q _ (I.hok.fresh (Nat.le_refl _))⟩
  rcases hq with hq | hq
  · obtain ⟨its,r',pl,hz⟩ := I.list hq
    have hlen := r'.length
    obtain ⟨o,ho,hc,n,hd⟩ := pl.isList
    exact call_list_seq p (.inl rfl) ho hc hd (fun h' c' kp e => fin its r' hz h' c' kp e) (by simp only [List.size_toArray] <;> omega)
  · obtain ⟨its,r',pl,hz⟩ := I.tuple hq
    have hlen := r'.length
    obtain ⟨o,ho,hc,n,hd⟩ := pl
    exact call_list_seq p (.inr rfl) ho hc hd (fun h' c' kp e => fin its r' hz h' c' kp e) (by simp only [List.size_toArray] <;> omega)
theorem Je4 : Jdp X (.type "tuple") (fun xs H Q => ∃ p ys,xs = [.ref p] ∧ ((SqL X.K H p ys ∧ ∀ l,H l = none → Q (.ref l) (upd H l (.tup ys))) ∨ (SqT X.K H p ys ∧ Q (.ref p) H))) := by
  intro pins s σ H xs us Q I r h
  obtain ⟨p,ys,rfl,h⟩ := h
  obtain ⟨u,rfl,rx⟩ := vals1 r
  cases rx
  rcases h with ⟨hq,q⟩ | ⟨hq,q⟩
  · obtain ⟨its,r',pl,hz⟩ := I.list hq
    have hlen := r'.length
    refine call_tuple_list pl.isList (fun h' kp => ?_) (by simp only [List.size_toArray] <;> omega)
    have I1 : Inv X pins σ H { s with heap := h' } := I.kept (t' := s.toks) kp
    have I2 : Inv X pins σ (upd H h'.objs.size (.tup ys)) { s with heap := h'.push { cls := .type "tuple",data := .seq its.toArray } } :=
      I1.laid (t' := s.toks) (fun b o e => Heap.get?_push_of_some _ e) (Nat.le_refl _) (show Jd1 X.prog X.w _ _ _ (.tup ys) from ⟨hz,its,r',IsTup.new _ _⟩)
    exact ⟨.ref h'.objs.size,_,I2,rfl,q _ (I1.hok.fresh (Nat.le_refl _))⟩
  · obtain ⟨its,r',pl,hz⟩ := I.tuple hq
    exact call_tuple_same pl ⟨.ref p,H,I,rfl,q⟩

def tyV (K : PySem.W.Frag) (T : String) (x : V) (H : Hp) : Prop := match x with
  | .str _ => T = "str"
  | .int _ => T = "int"
  | .ref p => (T = "list" ∧ ∃ xs,SqL K H p xs) ∨ (T = "tuple" ∧ ∃ o,K.lookup p = some o ∧ o.cls = .type "tuple" ∧ o.dict = none) ∨
      (T = "dict" ∧ ((∃ kvs,H p = some (.dK kvs)) ∨ ∃ kvs,H p = some (.dT kvs))) ∨ (T = "set" ∧ ∃ S n,H p = some (.set S n))
  | _ => False
theorem Jzv {pins : List (Addr × Obj)} {σ : St} {H : Hp} {s : Shared} {T : String} {x : V} {v : Value} (I : Inv X pins σ H s) (r : RelV x v) (ty : tyV X.K T x H) :
    s.TypeIs v T ∧ ∀ a,v = .ref a → ∃ ob,s.heap.get? a = some ob ∧ ob.dict = none := by
  cases x with
  | str z =>
    obtain ⟨t,rfl⟩ := r
    cases (show T = "str" from ty)
    exact ⟨typeIs_str s z t,fun _ e => nomatch e⟩
  | int i =>
    obtain ⟨t,rfl⟩ := r
    cases (show T = "int" from ty)
    exact ⟨typeIs_int s i t,fun _ e => nomatch e⟩
  | ref p =>
    cases r
    rcases ty with ⟨rfl,xs,hq⟩ | ⟨rfl,o,hk,hc,hd⟩ | ⟨rfl,hk⟩ | ⟨rfl,S,n,hk⟩
    · obtain ⟨its,_,pl,_⟩ := I.list hq
      refine ⟨pl.isList.typeIs,fun a e => ?_⟩
      cases e
      obtain ⟨o,n,e,c,hd,_⟩ := pl
      exact ⟨o,e,hd⟩
    · refine ⟨⟨o,I.kIn p o hk,hc⟩,fun a e => ?_⟩
      cases e
      exact ⟨o,I.kIn _ o hk,hd⟩
    · have z : ∃ o,s.heap.get? p = some o ∧ o.ExactDict := by
        rcases hk with ⟨kvs,hk⟩ | ⟨kvs,hk⟩
        · obtain ⟨_,_,_,_,o,_,_,e,ex,_⟩ := I.hok p _ hk
          exact ⟨o,e,ex⟩
        · obtain ⟨_,_,_,_,o,_,_,e,ex,_⟩ := I.hok p _ hk
          exact ⟨o,e,ex⟩
      obtain ⟨o,e,ex⟩ := z
      refine ⟨⟨o,e,ex.1⟩,fun a e2 => ?_⟩
      cases e2
      exact ⟨o,e,ex.2.1⟩
    · obtain ⟨o,_,_,_,e,ex,_⟩ := I.hok p _ hk
      refine ⟨⟨o,e,ex.1⟩,fun a e2 => ?_⟩
      cases e2
      exact ⟨o,e,ex.2.1⟩
  | _ => exact False.elim ty
def tBM (K : PySem.W.Frag) (T : String) (r : V → List V → Hp → VK → Prop) (to : TE) (t : TA) : TE := fun σ H Q => to σ H fun x H1 => tyV K T x H1 ∧ t σ H1 fun xs H2 => r x xs H2 Q
variable {o e : Expr} {es : List Expr} {to : TE} {t : TA} {name : Str} {apos cpos : Pos} {T id : String} {r : V → List V → Hp → VK → Prop}
theorem JC1 (pa : PlainAttrs T) (slot : Slot T name id) (hty : typeOf (.builtin id) = pure (.type "method_descriptor")) (hm : MtR X id r) (ho : PE X o to) (ha : PA X (e :: es) t)
    (hbase : attributeBase o name X.env (eval o X.env) = eval o X.env := by rfl)
    (hfew : ((backTo cpos (starEach (e :: es) X.env)).all (fun x => !x.1) && (backToKw cpos (keywordEach [] X.env)).all (fun x => x.1.isSome)
      && decide ((e :: es).length + ([] : List Keyword).length + (if ([] : List Keyword).isEmpty then 0 else 1) < 30)) = true := by rfl)
    (hline : (apos.endLine == cpos.line) = true := by rfl) (hs : starEach (e :: es) X.env = (false,eval e X.env) :: starEach es X.env := by rfl) (hplain : (backTo cpos (starEach es X.env)).any (·.1) = false := by rfl) :
    PE X (.Call (.Attribute o name apos) (e :: es) [] cpos) (tBM X.K T r to t) := by
  intro pins s σ H Q I h
  refine wpAny_Call_method_late hbase hfew hline rfl (thn (ho pins s σ H _ I h) fun v s1 ⟨x,H1,I1,r1,ty,q1⟩ => ?_)
  obtain ⟨h1,h2⟩ := Jzv I1 r1 ty
  refine ⟨T,id,pa,slot,hty,h1,h2,?_⟩
  have hA := ha cpos pins s1 σ H1 _ I1 q1
  rw [hs] at hA ⊢
  refine Calls.callWith_builtin (by show (false || (backTo cpos (starEach es X.env)).any (·.1)) = false; rw [hplain] <;> rfl) (Calls.evalArgs_plain ?_)
  exact thn hA fun us s2 ⟨vs,H2,I2,r2,q2⟩ => hm pins s2 σ H2 x vs v us Q I2 r1 r2 q2
/- xs.append(e), list.index on a module's tuple .. are MtR facts of 06m -/
end
end L2

namespace L2
open PySem PySem.Spec PyProof.Rows

def MtM (X : Cx) (id : String) (r : V → List V → Hp → VK → Prop) : Prop :=
  ∀ (pins : List (Addr × Obj)) (s : Shared) (σ : St) (H : Hp) (x : V) (xs : List V) (v : Value) (us : List Value) (Q : VK),Inv X pins σ H s → RelV x v → Vals xs us → r x xs H Q →
    wpAny (model X.prog X.w) X.A (call (.builtin id) (v :: us)) (EP X pins σ Q) X.xe s

theorem Vals.one : ∀ {x : V} {us : List Value},Vals [x] us → ∃ u,us = [u] ∧ RelV x u
  | _,_,.cons r .nil => ⟨_,rfl,r⟩
theorem Vals.two : ∀ {x y : V} {us : List Value},Vals [x,y] us → ∃ u v,us = [u,v] ∧ RelV x u ∧ RelV y v
  | _,_,_,.cons r (.cons q .nil) => ⟨_,_,rfl,r,q⟩
theorem Vals.zero : ∀ {us : List Value},Vals [] us → us = []
  | _,.nil => rfl
theorem Vals.eraseIdx : ∀ {xs : List V} {us : List Value} (i : Nat),Vals xs us → Vals (xs.eraseIdx i) (us.eraseIdx i)
  | _,_,_,.nil => .nil
  | _,_,0,.cons _ t => t
  | _,_,i + 1,.cons r t => .cons r (Vals.eraseIdx i t)
theorem Vals.reverse {xs : List V} {us : List Value} (h : Vals xs us) : Vals xs.reverse us.reverse := by
  induction h with
  | nil => exact .nil
  | cons r t ih => rw [List.reverse_cons,List.reverse_cons]; exact Vals.append ih (.cons r .nil)
theorem Vals.rep {xs : List V} {us : List Value} (h : Vals xs us) : ∀ k : Nat,Vals (List.replicate k xs).flatten (List.replicate k us).flatten
  | 0 => .nil
  | k + 1 => by
    rw [List.replicate_succ,List.replicate_succ,List.flatten_cons,List.flatten_cons]
    exact Vals.append h (Vals.rep h k)
theorem Jns {α : Type} : ∀ (l : List α) (i : Nat),(l.eraseIdx i).length ≤ l.length
  | [],_ => Nat.le_refl _
  | _ :: _,0 => Nat.le_succ _
  | _ :: r,i + 1 => Nat.succ_le_succ (Jns r i)
theorem foldl_rep (its : List Value) : ∀ (k : Nat) (acc : List Value),
    List.foldl (fun x1 x2 => x1 ++ x2) acc.toArray (List.replicate k its.toArray) = (acc ++ (List.replicate k its).flatten).toArray
  | 0,acc => by simp
  | k + 1,acc => by
    have e : acc.toArray ++ its.toArray = (acc ++ its).toArray := by simp
    have e2 : (acc ++ its) ++ (List.replicate k its).flatten = acc ++ (List.replicate (k + 1) its).flatten := by
      rw [List.replicate_succ,List.flatten_cons,List.append_assoc]
    rw [← e2,← foldl_rep its k (acc ++ its),← e,List.replicate_succ,List.foldl_cons]

section
variable {X : Cx} {pins : List (Addr × Obj)} {σ : St} {H : Hp} {s : Shared} {l b : Addr} {xs ys zs : List V}

theorem Inv.lset {its its' : List Value} {n : Nat} {f : Array Value → Array Value} {t' : Nat} (I : Inv X pins σ H s) (hH : H l = some (.lst xs))
    (e : s.heap.get? l = some { cls := .type "list",data := .seq its.toArray n }) (hf : f its.toArray = its'.toArray) (hv : Vals ys its') (hz : ys.length ≤ sizeLine) :
    Inv X pins σ (upd H l (.lst ys)) { s with heap := s.heap.update l (Obj.mapSeq f),toks := t' } := by
  have q := PySem.IsL.update e f
  rw [hf] at q
  refine I.write (x := l) (e := l) (by rw [hH]; exact trivial) (.inl rfl) (fun b' u hb hu => (Heap.get?_update_other s.heap (Obj.mapSeq f) (Ne.symm hb)).trans hu) ⟨_,q⟩ ?_
  exact ⟨hz,its',_,hv,q⟩
theorem Inv.lnew {its : List Value} {t' : Nat} (I : Inv X pins σ H s) (hv : Vals ys its) (hz : ys.length ≤ sizeLine) :
    Inv X pins σ (upd H s.heap.objs.size (.lst ys)) { s with heap := s.heap.push { cls := .type "list",data := .seq its.toArray },toks := t' } :=
  I.laid (fun _ _ q => Heap.get?_push_of_some _ q) (Nat.le_refl _) ⟨hz,its,0,hv,Heap.get?_push_size _ rfl⟩
theorem Inv.fresh (I : Inv X pins σ H s) : H s.heap.objs.size = none := I.hok.fresh (Nat.le_refl _)
theorem Inv.lstM (I : Inv X pins σ H s) (hH : H l = some (.lst xs)) : xs.length ≤ sizeLine ∧ ∃ (its : List Value) (n : Nat),Vals xs its ∧ xs.length = its.length ∧ s.heap.get? l = some { cls := .type "list",data := .seq its.toArray n } := by
  obtain ⟨z,its,n,r,e⟩ := I.hok l _ hH
  exact ⟨z,its,n,r,r.length,e⟩

theorem Jp2 {n : Nat} (h : n ≤ sizeLine) : Builtin.List.listTooLong n = false := by
  unfold Builtin.List.listTooLong
  exact decide_eq_false (by omega)
end

section
variable {X : Cx}

def Jr4 : V → List V → Hp → VK → Prop := fun x vs H Q => ∃ l xs y,x = .ref l ∧ vs = [y] ∧ H l = some (.lst xs) ∧ xs.length < sizeLine ∧ Q .non (upd H l (.lst (xs ++ [y])))
theorem Jj7 : MtM X "list.append" Jr4 := by
  intro pins s σ H x vs v us Q I rx rv h
  obtain ⟨l,xs,y,rfl,rfl,hH,hz,q⟩ := h
  cases rx
  obtain ⟨u,rfl,ru⟩ := rv.one
  obtain ⟨z,its,n,r,hl,e⟩ := I.lstM hH
  refine call_meets F.slot_list_append ⟨_,e,rfl⟩ F.entry_list_append (F.args_list_append_2 _ _) (PySem.list_append l its.toArray n u (by rw [List.size_toArray]; omega)) ⟨e,?_⟩
  refine ⟨.non,_,I.lset (its' := its ++ [u]) hH e (by simp) (r.append (.cons ru .nil)) ?_,rfl,q⟩
  rw [List.length_append,List.length_singleton]
  omega

def Jr3 : V → List V → Hp → VK → Prop := fun x vs H Q => ∃ l b xs zs,x = .ref l ∧ vs = [.ref b] ∧ H l = some (.lst xs) ∧ H b = some (.lst zs) ∧ xs.length + zs.length ≤ sizeLine ∧ Q .non (upd H l (.lst (xs ++ zs)))
theorem Jsk : MtM X "list.extend" Jr3 := by
  intro pins s σ H x vs v us Q I rx rv h
  obtain ⟨l,b,xs,zs,rfl,rfl,hH,hB,hz,q⟩ := h
  cases rx
  obtain ⟨u,rfl,ru⟩ := rv.one
  cases ru
  obtain ⟨z,its,n,r,hl,e⟩ := I.lstM hH
  obtain ⟨z2,its2,n2,r2,hl2,e2⟩ := I.lstM hB
  have hsz : its.toArray.size + its2.toArray.size ≤ sizeLine := by rw [List.size_toArray,List.size_toArray]; omega
  have hlong : ¬ (!its.toArray.isEmpty && Builtin.List.listTooLong (its.toArray.size + its2.toArray.size)) = true := by
    rw [Jp2 hsz,Bool.and_false]
    exact Bool.false_ne_true
  refine call_meets F.slot_list_extend ⟨_,e,rfl⟩ F.entry_list_extend (F.args_list_extend_2 _ _)
    (AutoSeq1.list_extend_list_list_0 l its.toArray n b its2.toArray n2 hlong (by rw [List.size_toArray]; omega) (by omega)) ⟨e,e2,?_⟩
  refine ⟨.non,_,I.lset (its' := its ++ its2) hH e (by simp) (r.append r2) ?_,rfl,q⟩
  rw [List.length_append]
  omega

def Jwg : V → List V → Hp → VK → Prop := fun x vs H Q => ∃ l xs i k y,x = .ref l ∧ vs = [.int i] ∧ H l = some (.lst xs) ∧ -(2 ^ 63) ≤ i ∧ i < 2 ^ 63 ∧ seqIndex? i xs.length = some k ∧ xs[k]? = some y ∧ Q y (upd H l (.lst (xs.eraseIdx k)))
theorem Ju4 : MtM X "list.pop" Jwg := by
  intro pins s σ H x vs v us Q I rx rv h
  obtain ⟨l,xs,i,k,y,rfl,rfl,hH,h1,h2,hk,hy,q⟩ := h
  cases rx
  obtain ⟨u,rfl,ru⟩ := rv.one
  obtain ⟨t,rfl⟩ := ru
  obtain ⟨z,its,n,r,hl,e⟩ := I.lstM hH
  obtain ⟨w,hw,rw'⟩ := r.get hy
  refine call_meets F.slot_list_pop ⟨_,e,rfl⟩ F.entry_list_pop (F.args_list_pop_2 _ _)
    (MeetsSeq.list_pop_at l its.toArray n i t k w (fitsIndex_both h1 h2) (by rw [List.size_toArray,← hl]; exact hk) (by rw [← Array.getElem?_toList]; exact hw) (by rw [List.size_toArray]; omega)) ⟨e,?_⟩
  refine ⟨y,_,I.lset (its' := its.eraseIdx k) hH e ?_ (r.eraseIdx k) ?_,rw',q⟩
  · show its.toArray.eraseIdxIfInBounds k = (its.eraseIdx k).toArray
    rw [List.eraseIdxIfInBounds_toArray]
  · have := Jns xs k
    omega

def rCat : R2 := fun x y H Q => ∃ l b xs zs,x = .ref l ∧ y = .ref b ∧ H l = some (.lst xs) ∧ H b = some (.lst zs) ∧ xs.length + zs.length ≤ sizeLine ∧ ∀ p,H p = none → Q (.ref p) (upd H p (.lst (xs ++ zs)))
theorem JA0 : OpR X (binaryOp .Add) rCat := by
  intro pins s σ H x y v u Q I rx ry h
  obtain ⟨l,b,xs,zs,rfl,rfl,hH,hB,hz,q⟩ := h
  cases rx
  cases ry
  obtain ⟨z,its,n,r,hl,e⟩ := I.lstM hH
  obtain ⟨z2,its2,n2,r2,hl2,e2⟩ := I.lstM hB
  refine PySem.P.add_list e e2 ?_ (by rw [List.size_toArray,List.size_toArray]; omega)
  have ea : its.toArray ++ its2.toArray = (its ++ its2).toArray := by simp
  rw [ea]
  exact ⟨.ref _,_,I.lnew (t' := s.toks) (r.append r2) (by rw [List.length_append]; omega),rfl,q _ I.fresh⟩
def rRep : R2 := fun x y H Q => ∃ l k xs,x = .ref l ∧ y = .int k ∧ H l = some (.lst xs) ∧ -(2 ^ 63) ≤ k ∧ k < 2 ^ 63 ∧ xs.length * k.toNat ≤ sizeLine ∧
  ∀ p,H p = none → Q (.ref p) (upd H p (.lst (List.replicate k.toNat xs).flatten))
theorem len_rep {α : Type} (xs : List α) (k : Nat) : (List.replicate k xs).flatten.length = k * xs.length := by
  induction k with
  | zero => simp
  | succ k ih => rw [List.replicate_succ,List.flatten_cons,List.length_append,ih,Nat.succ_mul,Nat.add_comm]
theorem JAs : OpR X (binaryOp .Mult) rRep := by
  intro pins s σ H x y v u Q I rx ry h
  obtain ⟨l,k,xs,rfl,rfl,hH,h1,h2,hz,q⟩ := h
  cases rx
  obtain ⟨t,rfl⟩ := ry
  obtain ⟨z,its,n,r,hl,e⟩ := I.lstM hH
  have hlen : its.toArray.size * k.toNat ≤ sizeLine := by rw [List.size_toArray,← hl]; exact hz
  have hcap : ¬ its.toArray.size * k.toNat > (2 ^ 63 - 1) / 8 := by
    have : (sizeLine : Nat) ≤ (2 ^ 63 - 1) / 8 := by decide
    omega
  have hfit : ¬ (!Builtin.List.listFitsIndex k) = true := by
    rw [fitsIndex_both h1 h2]
    exact Bool.false_ne_true
  have hlong : ¬ Builtin.List.listTooLong (its.toArray.size * k.toNat) = true := by
    rw [Jp2 hlen]
    exact Bool.false_ne_true
  have hnew : List.foldl (fun x1 x2 => x1 ++ x2) #[] (List.replicate (if its.toArray.isEmpty = true then 0 else k.toNat) its.toArray) = (List.replicate k.toNat its).flatten.toArray := by
    have f0 : ∀ m : Nat,List.foldl (fun x1 x2 => x1 ++ x2) #[] (List.replicate m its.toArray) = (List.replicate m its).flatten.toArray := fun m => by
      have := foldl_rep its m []
      rw [List.nil_append] at this
      exact this
    rw [f0]
    cases its with
    | nil => simp
    | cons a r' => rw [if_neg (by simp)]
  refine wpAny_binaryOp_repeat_ref (T := "list") (U := "int") (by decide) ⟨_,e,rfl⟩ (fun s' => typeIs_int s' k t) noFill_list_mul F.fills_int_mul F.slot_int_rmul repeat_list F.slot_int_index.lookup
    (call_meets F.slot_int_rmul (typeIs_int s k t) F.entry_int_rmul (F.args_int_rmul_2 _ _) (int___rmul___int_list k t l its.toArray n)
      ⟨e,rfl,⟨_,e,rfl⟩,call_meets F.slot_list_mul ⟨_,e,rfl⟩ F.entry_list_mul (F.args_list_mul_2 _ _) (AutoListH.list___mul___list_int_3 l its.toArray n k t hfit hcap hlong) ⟨e,?_⟩⟩)
  rw [hnew]
  exact ⟨.ref _,_,I.lnew (t' := s.toks) (r.rep k.toNat) (by rw [len_rep,Nat.mul_comm]; exact hz),rfl,q _ I.fresh⟩

end

section
variable {prog : Program} {w : World} {A : Around} {E : Value → Shared → Prop} {s : Shared}
set_option maxRecDepth 100000 in
end

section
variable {X : Cx}
end
end L2

namespace Att
open PySem PySem.W PySem.Calls PyProof.Rows

theorem Jkh {P : Params} {h : Heap} : ∀ (ns : List Int) (vs : List Value),WellAll P h vs (ns.map WData.int) → IntsAre vs ns := by
  intro ns
  induction ns with
  | nil =>
    intro vs w
    rw [List.map_nil] at w
    cases w
    exact .nil
  | cons n ns ih =>
    intro vs w
    rw [List.map_cons] at w
    cases w with
    | cons a b =>
      cases a
      exact .cons _ _ (ih _ b)

theorem Jry {l : OpenLaw} {n : Nat} (hn : l.most = some n) {P : Params} {h : Heap} {args : List WData} {vals : List Value}
    (hpre : l.row.toRowW.claim.pre args = true) (hwl : WellAll P h vals args) :
    ∃ a vs ns,vals = [Value.ref a] ∧ args = [WData.list (ns.map WData.int)] ∧ h.get? a = some { cls := .type "list",data := .seq vs.toArray } ∧ IntsAre vs ns ∧ ns.length ≤ n := by
  have hsh : WShape.hasAll [] args [.list .int] = true := (pre_splitW hpre).1
  have hc : l.pre.holds [] { args := args } = true := (pre_splitW hpre).2
  obtain ⟨d,r,rfl,h1,h2⟩ := hasAllW_cons hsh
  obtain rfl := hasAllW_nil h2
  obtain ⟨xs,rfl,h3⟩ := hasW_list h1
  obtain ⟨ns,rfl⟩ := items_int h3
  have hlen : ns.length ≤ n := by
    unfold OpenLaw.pre at hc
    have h4 : (WTm.not (.lt (.lit (.int (n : Int))) (.len (.arg 0)))).holds [] { args := [.list (ns.map .int)] } = true := by
      have h4 := (holds_andW hc).1
      rw [hn] at h4
      exact h4
    have h5 := condW_of h4 (w_not (w_lt w_lit (w_len_list (w_arg rfl))))
    rw [List.length_map] at h5
    refine Nat.le_of_not_lt fun q => ?_
    have q' : (n : Int) < ((ns.length : Nat) : Int) := by omega
    first
      | (rw [decide_eq_true q'] at h5; exact absurd h5 (by decide))
      | (simp at h5; omega)
  cases hwl with
  | cons w1 w2 =>
    cases w2
    cases w1 with
    | list ho hall => exact ⟨_,_,ns,rfl,rfl,ho,Jkh ns _ hall,hlen⟩

theorem Jr8 (l : OpenLaw) (args : List WData) : l.row.toRowW.claim.post args (.bool true) args = true :=
  postW_of (r := l.row.toRowW) (X := (true == true))
    (show WShape.has [] (.bool true) .bool = true by first | rfl | decide | simp [WShape.has,WShape.arms,WShape.armsAll])
    (show (WTm.eq .res (.lit (.bool true))).value [] { args := args,res := some (.bool true),after := args } = some (.bool (true == true)) from w_eq_bool (w_res rfl) w_lit) rfl

theorem Jqy {R : WRecords} {cl : Str → Option Addr} {h : Heap} {a : Addr} {ds : List WData} {as : List Addr} (r : ReadsAllW R cl h [.ref a] [.list ds] as) (lo : ∀ b ∈ as,(b == sysModules) = false) : a ≠ sysModules := by
  cases r with
  | cons r1 _ =>
    cases r1 with
    | list _ _ _ _ => exact fun z => by have := lo a (by simp); rw [z] at this; simp at this
theorem Jpe {l : OpenLaw} {n : Nat} {q : Program} {loose : List Str} {XP : (Str → Option Value) → Heap → Prop} {YP : World → Heap → Prop} {d : DefRec}
    (hn : l.most = some n) (hdf : d.params.defaults = [])
    (call : ∀ (w : World) (s₀ s₁ : Shared) (mg mb : Str → Option Value) (fa : Addr) (o : Obj) (pm cd doc : Value) (a : Addr) (vs : List Value) (ns : List Int),
      Ground q loose [] XP w s₀ mg mb s₁.heap → YP w s₁.heap →
      s₁.heap.get? fa = some o → o.data = .func (docDef d.name d.params d.body d.scope pm cd doc) → s₁.heap.CodeRec cd d.name → mg d.name = some (.ref fa) →
      s₁.heap.get? a = some { cls := .type "list",data := .seq vs.toArray } → IntsAre vs ns → ns.length ≤ n → a ≠ sysModules → s₁.gens = #[] →
      codeAny (model l.prog w) callerA (.call (.ref fa) ⟨[.ref a],[]⟩) (fun r s' => r = .ok (.ret (.bool true)) ∧ OldK s₁.heap s'.heap ∧ s'.os = s₁.os ∧ AllBare s'.gens) s₁) :
    WalkO q loose XP YP l.row.toRowW d [] (fun f vs => PySem.call f vs) := by
  intro w s₀ s₁ mg mb G Y fa o pm cd doc dV kV ho hd hcd hD hmg hg args vals as hpre hlay hrd hwl hlo
  obtain rfl : dV = .none := Dflts.none hD hdf
  obtain rfl : kV = .none := Dflts.noKw hD
  obtain ⟨a,vs,ns,rfl,rfl,hobj,hints,hlen⟩ := Jry hn hpre hwl
  refine enter_call (codeAny_mono (call w s₀ s₁ mg mb fa o pm cd doc a vs ns G Y ho (fd_plain hd) hcd hmg hobj hints hlen (Jqy hrd hlo) hg) fun r s' hq => ?_)
  obtain ⟨rfl,h2,h3,h4⟩ := hq
  exact ⟨.inl ⟨.bool true,.bool true,[],rfl,fun _ => rfl,.bool true,Jr8 l _,fun _ => ⟨List.Pairwise.nil,fun _ hm => (nomatch hm)⟩⟩,h2,h3,h4⟩

section
variable {prog : Program} {w : World} {A : Around} {E : Value → Shared → Prop} {s : Shared} {K : Frag}

end
end Att

namespace L2
open PySem PySem.Spec PyProof.Rows

theorem Jjw : ∀ {vs : List Value} {ns : List Int},IntsAre vs ns → Vals (ns.map V.int) vs
  | _,_,.nil => .nil
  | _,_,.cons n t h => .cons ⟨t,rfl⟩ (Jjw h)

def Only (H : Hp) : Prop := ∀ b,H b = none ∨ ∃ o xs,H b = some (.frz o (.lst xs))

theorem Jvc {P : Program} {w : World} {K : PySem.W.Frag} {mg mb : Str → Option Value} {CX : CXT} {k : Nat} {fa a : Addr} {fd : FuncData} {x : Str} {sp : Sp} {s₁ : Shared} {vs : List Value} {ns : List Int}
    (KX : K.In s₁.heap) (hns : s₁.heap.Ns mainGlobals mg) (hb : s₁.heap.Ns builtinsNs mb) (hbb : ∀ x : Str,x ≠ "__name__" → mb x = bootBuiltins x) (hlim : s₁.heap.NoLimit) (hg : s₁.gens = #[])
    (ha : s₁.heap.get? a = some { cls := .type "list",data := .seq vs.toArray }) (hi : IntsAre vs ns) (hl : ns.length ≤ sizeLine) (hasy : a ≠ sysModules) (hr : Room k callerA)
    (F : ∀ base : Heap,K.In base → base.Ns mainGlobals mg → FnOk P w K mg base CX k fa fd [x] sp) (hbind : ∀ (s : Shared) (u : Value),BindsTo s fd ⟨[u],[]⟩ [(x,u)])
    (hsp : ∀ H : Hp,Only H → SqL K H a (ns.map V.int) → sp [.ref a] H (fun v _ => v = .bl true) fun _ _ _ => False)
    (hCX : ∀ H e s',CX [] H s₁ (fun _ _ _ => False) e s' → False) :
    codeAny (model P w) callerA (.call (.ref fa) ⟨[.ref a],[]⟩) (fun r s' => r = .ok (.ret (.bool true)) ∧ OldK s₁.heap s'.heap ∧ s'.os = s₁.os ∧ AllBare s'.gens) s₁ := by
  have rv := Jjw hi
  have lenV := hi.length
  -- from an abstract heap in which nothing but the script may be tracked
  have core : ∀ H : Hp,Only H → SqL K H a (ns.map V.int) → HOk P w H s₁.heap → (∀ b,H b ≠ none → b = a) → (H a ≠ none → K.lookup a = none) →
      codeAny (model P w) callerA (.call (.ref fa) ⟨[.ref a],[]⟩) (fun r s' => r = .ok (.ret (.bool true)) ∧ OldK s₁.heap s'.heap ∧ s'.os = s₁.os ∧ AllBare s'.gens) s₁ := by
    intro H hO hS hok hA hK
    have base_of : ∀ {b : Addr} {o : Obj},s₁.heap.get? b = some o → H b = none → (hidT s₁.heap H).get? b = some o := fun e n => Jv1 e n
    have noA : ∀ {b : Addr} {o : Obj} {es : Array DictEntry} {ep : Nat},s₁.heap.get? b = some o → o.data = .dict es ep → H b = none := fun {b o es ep} e d => by
      cases q : H b with
      | none => rfl
      | some u =>
        have e' : b = a := hA b (by rw [q]; simp)
        subst e'
        rw [ha] at e; cases e
        have d' : Data.seq vs.toArray _ = Data.dict es ep := d
        cases d'
    have nsK : ∀ {b : Addr} {m : Str → Option Value},s₁.heap.Ns b m → (hidT s₁.heap H).Ns b m := fun {b m} ⟨o,es,ep,e,d,r⟩ => ⟨o,es,ep,base_of e (noA e d),d,r⟩
    have hKb : K.In (hidT s₁.heap H) := fun b o e => base_of (KX b o e) (by
      cases q : H b with
      | none => rfl
      | some u =>
        have e' : b = a := hA b (by rw [q]; simp)
        subst e'
        rw [hK (by rw [q]; simp)] at e; cases e)
    have hM : Mod K mg (hidT s₁.heap H) := ⟨hKb,nsK hns,⟨mb,nsK hb,hbb⟩,let ⟨mc,h1,h2⟩ := hlim; ⟨mc,nsK h1,h2⟩⟩
    have e0 : Env0 P w K mg (hidT s₁.heap H) callerA [] s₁ H := ⟨rfl,hM,fun b o e => Jyh e,Nat.le_of_eq (Js5 _ _),trivial,fun b hb => absurd (show b ∈ ([] : List Addr) from hb) (by simp),hok,.of_eq hg,Classical.byContradiction fun z => hasy (hA _ z).symm⟩
    refine codeAny_mono ((F _ hKb (nsK hns)).run callerA [] s₁ H ⟨[.ref a],[]⟩ [.ref a] [.ref a] _ _ hr e0 (hbind s₁ (.ref a)) (.cons rfl .nil) (hsp H hO hS)) fun r s' h => ?_
    cases r with
    | error e => exact (hCX H e s' h).elim
    | ok fl =>
      cases fl with
      | next => exact False.elim h
      | brk => exact False.elim h
      | cont => exact False.elim h
      | ret u =>
        obtain ⟨v,H',os,bare,un,hok',r',q⟩ := h
        have q' : v = .bl true := q
        subst q'
        obtain rfl : u = Value.bool true := r'
        refine ⟨rfl,OldK.of_keep fun b o e => ?_,os,bare⟩
        cases q : H b with
        | none => exact un.keep b o e q (by intro z; exact absurd (show b ∈ ([] : List Addr) from z) (by simp)) (by simp)
        | some u =>
          rcases hO b with z | ⟨ob,xs,z⟩
          · rw [q] at z; cases z
          · have z2 := un.frzs b ob _ z
            obtain ⟨e1,_⟩ := hok b _ z
            obtain ⟨e2,_⟩ := hok' b _ z2
            rw [e] at e1; cases e1
            exact e2
  cases hk : K.lookup a with
  | some o =>
    -- the script is one of the module's own objects
    have e := KX a o hk
    rw [ha] at e
    cases e
    refine core (fun _ => none) (fun _ => .inl rfl) (.inr ⟨_,vs.toArray,_,hk,rfl,rfl,rfl,by rw [List.size_toArray,lenV]; exact hl,by simpa using rv⟩) (fun b u z => by have z' : (none : Option HO) = some u := z; cases z') (fun b z => absurd rfl z) fun z => absurd rfl z
  | none =>
    refine core (fun b => if b = a then some (.frz { cls := .type "list",data := .seq vs.toArray } (.lst (ns.map V.int))) else none) (fun b => ?_) (.inl (.inr ⟨{ cls := .type "list",data := .seq vs.toArray },if_pos rfl⟩)) (fun b u z => ?_) (fun b z => ?_) fun _ => hk
    · by_cases hb : b = a
      · exact .inr ⟨_,_,if_pos hb⟩
      · exact .inl (if_neg hb)
    · by_cases hb : b = a
      · have z' := (if_pos hb).symm.trans z
        cases z'
        subst hb
        exact ⟨ha,by rw [List.length_map]; exact hl,vs,_,rv,ha⟩
      · have z' := (if_neg hb).symm.trans z
        cases z'
    · by_cases hb : b = a
      · exact hb
      · exact absurd (if_neg hb) z
end L2

namespace L2
open PySem PySem.Spec PyProof.Rows

abbrev KOf {K : PySem.W.Frag} {h : Heap} (_ : K.In h) : PySem.W.Frag := K

theorem walk_of {l : PySem.W.OpenLaw} {n k : Nat} {q : Program} {loose : List Str} {XP : (Str → Option Value) → Heap → Prop} {YP : World → Heap → Prop} {d : DefRec} {K : Params → PySem.W.Frag} {CX : World → CXT} {sp : World → Sp} {x : Str}
    (hn : l.most = some n) (hn2 : n ≤ sizeLine) (hdf : d.params.defaults = []) (hr : Room k callerA)
    (hY : ∀ (w : World) (h : Heap),YP w h → (K w.params).In h)
    (F : ∀ (w : World) (mg : Str → Option Value) (fa : Addr) (h : Heap),(K w.params).In h → h.Ns mainGlobals mg → mg d.name = some (.ref fa) →
      ∃ fd : FuncData,(∀ (s : Shared) (u : Value),BindsTo s fd ⟨[u],[]⟩ [(x,u)]) ∧
        ∀ base : Heap,(K w.params).In base → base.Ns mainGlobals mg → FnOk l.prog w (K w.params) mg base (CX w) k fa fd [x] (sp w))
    (hsp : ∀ (w : World) (H : Hp) (a : Addr) (ns : List Int),ns.length ≤ n → Only H → SqL (K w.params) H a (ns.map V.int) → sp w [.ref a] H (fun v _ => v = .bl true) fun _ _ _ => False)
    (hCX : ∀ (w : World) (H : Hp) (s : Shared) (e : Value) (s' : Shared),CX w [] H s (fun _ _ _ => False) e s' → False) :
    PySem.W.WalkO q loose XP YP l.row.toRowW d [] (fun f vs => PySem.call f vs) := by
  refine Att.Jpe hn hdf fun w s₀ s₁ mg mb fa o pm cd doc a vs ns G Y ho hd hcd hmg hobj hints hlen hasy hg => ?_
  have KX := hY w _ Y
  obtain ⟨fd,hb,hF⟩ := F w mg fa _ KX G.T.g hmg
  exact Jvc KX G.T.g G.T.b G.T.builtins G.T.nolimit hg hobj hints (Nat.le_trans hlen hn2) hasy hr hF hb (fun H hO hS => hsp w H a ns hlen hO hS) fun H e s' => hCX w H s₁ e s'
theorem Jt9 {l : PySem.W.OpenLaw} {n k : Nat} {q : Program} {loose : List Str} {XP : (Str → Option Value) → Heap → Prop} {YP : World → Heap → Prop} {d : DefRec} {K : Params → PySem.W.Frag} {CX : CXT} {sp : PySem.W.Frag → Sp} {x : Str}
    (hn : l.most = some n) (hn2 : n ≤ sizeLine) (hdf : d.params.defaults = []) (hr : Room k callerA)
    (hY : ∀ (w : World) (h : Heap),YP w h → (K w.params).In h)
    (F : ∀ (w : World) (mg : Str → Option Value) (fa : Addr) (h : Heap),(K w.params).In h → h.Ns mainGlobals mg → mg d.name = some (.ref fa) →
      ∃ fd : FuncData,(∀ (s : Shared) (u : Value),BindsTo s fd ⟨[u],[]⟩ [(x,u)]) ∧
        ∀ base : Heap,(K w.params).In base → base.Ns mainGlobals mg → FnOk l.prog w (K w.params) mg base CX k fa fd [x] (sp (K w.params)))
    (hsp : ∀ (K : PySem.W.Frag) (H : Hp) (a : Addr) (ns : List Int),ns.length ≤ n → Only H → SqL K H a (ns.map V.int) → sp K [.ref a] H (fun v _ => v = .bl true) fun _ _ _ => False)
    (hCX : ∀ (H : Hp) (s : Shared) (e : Value) (s' : Shared),CX [] H s (fun _ _ _ => False) e s' → False) :
    PySem.W.WalkO q loose XP YP l.row.toRowW d [] (fun f vs => PySem.call f vs) :=
  walk_of (K := K) (CX := fun _ => CX) (sp := fun w => sp (K w.params)) hn hn2 hdf hr hY F (fun w H a ns h1 h2 h3 => hsp (K w.params) H a ns h1 h2 h3) fun _ H s e s' => hCX H s e s'
end L2

/- THE LAST THEOREM (shape; LID, My.* are yours):
   My.Adr: a structure of the addresses that your layer names (classes, functions); My.Txt K t: a structure (Prop) of the equations over K;
   My.txt_mk : {K} {implicit addresses ..} (e1 : nsIn K mainGlobals "law" = some (some (.ref f))) (e2 : K.lookup f = some ⟨oc, od, .func (fnOf "law" "law" params body scope dV kV doc pm an cdv ct), sl⟩) (e3 : codeIn K cdv "law" = true) .. : ∃ t, My.Txt K t

set_option maxRecDepth 100000 in
set_option maxHeartbeats 0 in
theorem PySem.Challenge.cw_LID_holds : PySem.Challenge.rw_LID.Holds := by
  w_on; o_law; k_head; (case hw => w_witness2)
  k_fill
  refine L2.walk_of (l := PySem.Challenge.rw_LID) (n := 63) (k := 40) (x := "script") (CX := fun w => ..) (sp := fun _ => My.sp_law) rfl (by decide) rfl ⟨rfl, by decide, by decide⟩ (fun w h Y => PySem.W.kIn_of Y) ?F ?S ?C
  case F =>
    intro w mg fa h KX G hmg
    have T : ∃ t, My.Txt (L2.KOf KX) t := by
      dsimp only [L2.KOf]                          -- K must stand as «<heap const> w.params» for k_is
      refine' My.txt_mk ?e1 ?e2 ?e3 ..
      (case e1 => PySem.W.k_is)                    -- in the order: a name -> its address -> its object -> its parts
      (case e2 => PySem.W.k_is)
      ..
    obtain ⟨t, T⟩ := T
    have e0 := hmg.symm.trans (PySem.W.mg_of KX G T.law)
    cases e0                                       -- fa is the law's own address
    exact ⟨_, fun s u => .of_eq rfl, fun base kb nb => My.law_fn T kb nb⟩     -- if «.of_eq rfl» comes too early: refine' ⟨_, ?b, fun base kb nb => My.law_fn T kb nb⟩; exact fun s u => .of_eq rfl
  case S => exact fun w H a ns hl hO hS => ..
  case C => exact ..
(the tactic k_is has no namespace: write k_is) -/

namespace L2
open PySem PySem.Spec PyProof.Rows

def Jb2 (s : Stmt) : Arguments := match s with
  | .FunctionDef _ a _ _ _ _ _ _ _ _ => a
  | _ => { posonlyargs := [],args := [],vararg := none,kwonlyargs := [],kw_defaults := [],kwarg := none,defaults := [] }
def Jbk (s : Stmt) : List Stmt := match s with
  | .FunctionDef _ _ b _ _ _ _ _ _ _ => b
  | _ => []
def Jag (s : Stmt) : Scope := match s with
  | .FunctionDef _ _ _ _ _ _ sc _ _ _ => sc
  | _ => { kind := .function,names := [],isGenerator := false,isCoroutine := false }

abbrev CX0 : CXT := fun _ _ _ _ _ _ => False
abbrev E0 : XK := fun _ _ _ => False
theorem JC3 {X : Cx} : Passes CX0 X E0 := fun _ _ _ _ _ _ _ h => h.elim

structure Fun (K : PySem.W.Frag) (x qual : Str) (st : Stmt) (f : Addr) (fd : FuncData) : Prop where
  ex : ∃ (oc : Value) (od : Option Addr) (kV doc pm : Value) (an : Option Addr) (cdv ct : Value) (osl : Array (Option Value)),
    fd = PySem.W.fnOf x qual (Jb2 st) (Jbk st) (Jag st) .none kV doc pm an cdv ct ∧ K.lookup f = some ⟨oc,od,.func fd,osl⟩ ∧ PySem.W.codeIn K cdv qual = true
  kp : PySem.W.keepIn K (.ref f) = true
section
variable {P : Program} {w : World} {K : PySem.W.Frag} {mg : Str → Option Value} {base : Heap}
theorem Fun.ok {x qual : Str} {st : Stmt} {f : Addr} {fd : FuncData} {N ps : List Str} {k : Nat} {sp : Sp} (F : Fun K x qual st f fd) (S : Jb3 N ps (Jag st)) (len : ∀ vs H Q E,sp vs H Q E → vs.length = ps.length)
    (hbody : ∀ (cdv : Value) (A : Around) (outer : List Env) (s : Shared) (H : Hp) (vs : List V) (Q : VK) (E : XK),Room k (A.deeper (envOfC qual (Jag st) s.heap.objs.size f cdv)) → sp vs H Q E →
      ∃ t,PSs (cxOf CX0 P w K mg base N qual (Jag st) f cdv A outer s H E).nox (Jbk st) t ∧ t { nx := fun _ H' => Q .non H',rt := Q } (start N vs) H) : FnOk P w K mg base CX0 (k + 1) f fd ps sp := by
  obtain ⟨oc,od,kV,doc,pm,an,cdv,ct,osl,rfl,lk,hcd⟩ := F.ex
  refine JDu lk hcd S len fun A outer s H vs Q E hr hsp => ?_
  obtain ⟨t,h,q⟩ := hbody cdv A outer s H vs Q E hr hsp
  exact ⟨t,h.nox,q⟩
theorem Fun.binds {x qual : Str} {st : Stmt} {f : Addr} {fd : FuncData} {ps : List Str} (F : Fun K x qual st f fd)
    (h : ∀ (kV doc pm : Value) (an : Option Addr) (cdv ct : Value) (us : List Value),us.length = ps.length → bindArgs (PySem.W.fnOf x qual (Jb2 st) (Jbk st) (Jag st) .none kV doc pm an cdv ct) ⟨us,[]⟩ = pure (ps.zip us)) : Binds K fd ps [] := by
  obtain ⟨oc,od,kV,doc,pm,an,cdv,ct,osl,rfl,lk,hcd⟩ := F.ex
  exact .all (h kV doc pm an cdv ct)
theorem Jdh {x qual : Str} {st : Stmt} {f : Addr} {oc : Value} {od an : Option Addr} {osl : Array (Option Value)} {kV doc pm cdv ct : Value} (l : K.lookup f = some ⟨oc,od,.func (PySem.W.fnOf x qual (Jb2 st) (Jbk st) (Jag st) .none kV doc pm an cdv ct),osl⟩)
    (c : PySem.W.codeIn K cdv qual = true) (k : PySem.W.keepIn K (.ref f) = true) : Fun K x qual st f (PySem.W.fnOf x qual (Jb2 st) (Jbk st) (Jag st) .none kV doc pm an cdv ct) := ⟨⟨oc,od,kV,doc,pm,an,cdv,ct,osl,rfl,l,c⟩,k⟩
end
theorem Jm7 {n : Nat} (h : n ≤ 1000) : n < sizeLine := Nat.lt_of_le_of_lt h (by decide)

section
variable {X : Cx}
end

def Same (H H' : Hp) : Prop := ∀ b o,H b = some o → H' b = some o
theorem Same.refl (H : Hp) : Same H H := fun _ _ h => h
theorem Same.trans {H H1 H2 : Hp} (a : Same H H1) (b : Same H1 H2) : Same H H2 := fun c o h => b c o (a c o h)
theorem Same.free {H H' : Hp} (e : Same H H') {l : Addr} (h : H' l = Option.none) : H l = Option.none := by
  cases q : H l with
  | none => rfl
  | some o =>
    rw [e l o q] at h
    cases h
theorem Same.seq {K : PySem.W.Frag} {H H' : Hp} {a : Addr} {xs : List V} (e : Same H H') (h : SqL K H a xs) : SqL K H' a xs := by
  rcases h with (h | ⟨o,h⟩) | h
  · exact .inl (.inl (e _ _ h))
  · exact .inl (.inr ⟨o,e _ _ h⟩)
  · exact .inr h

end L2
end
section
namespace SetP
open PySem

def Rise (xs : Array Nat) : Prop := xs.toList.Pairwise (· < ·)
theorem Jup : Rise #[] := List.Pairwise.nil
theorem Jqq (n : Nat) : Rise (Array.range n) := by
  unfold Rise
  rw [Array.toList_range]
  exact List.pairwise_lt_range
theorem Rise.lt {xs : Array Nat} (h : Rise xs) {i k : Nat} (hik : i < k) (hk : k < xs.size) : xs.getD i 0 < xs.getD k 0 := by
  have q := List.pairwise_iff_getElem.mp h i k (by rw [Array.length_toList]; omega) (by rw [Array.length_toList]; exact hk) hik
  rw [Array.getD_eq_getD_getElem?,Array.getD_eq_getD_getElem?,Array.getElem?_eq_getElem (by omega),Array.getElem?_eq_getElem hk]
  simpa using q
theorem Rise.le {xs : Array Nat} (h : Rise xs) {i k : Nat} (hik : i ≤ k) (hk : k < xs.size) : xs.getD i 0 ≤ xs.getD k 0 := by
  rcases Nat.lt_or_eq_of_le hik with z | z
  · exact Nat.le_of_lt (h.lt z hk)
  · rw [z]; exact Nat.le_refl _

theorem Jo9 {xs : Array Nat} {j : Nat} (h : Rise xs) : ∀ (fuel lo hi : Nat),lo ≤ hi → hi ≤ xs.size → hi - lo ≤ fuel → (∀ i,i < lo → xs.getD i 0 < j) → (∀ i,hi ≤ i → i < xs.size → j ≤ xs.getD i 0) →
    SetTable.below.go xs j fuel lo hi ≤ xs.size ∧ (∀ i,i < SetTable.below.go xs j fuel lo hi → xs.getD i 0 < j) ∧ ∀ i,SetTable.below.go xs j fuel lo hi ≤ i → i < xs.size → j ≤ xs.getD i 0
  | 0,lo,hi,h1,h2,h3,h4,h5 => by
    have e : lo = hi := by omega
    subst e
    unfold SetTable.below.go
    exact ⟨h2,h4,h5⟩
  | fuel + 1,lo,hi,h1,h2,h3,h4,h5 => by
    unfold SetTable.below.go
    by_cases hlt : lo < hi
    · rw [if_pos hlt]
      have hm : (lo + hi) / 2 < hi := by omega
      have hl : lo ≤ (lo + hi) / 2 := by omega
      have e : xs.getD ((lo + hi) / 2) j = xs.getD ((lo + hi) / 2) 0 := by
        rw [Array.getD_eq_getD_getElem?,Array.getD_eq_getD_getElem?,Array.getElem?_eq_getElem (by omega)]
        rfl
      dsimp only
      rw [e]
      by_cases hc : xs.getD ((lo + hi) / 2) 0 < j
      · rw [if_pos hc]
        exact Jo9 h fuel _ hi (by omega) h2 (by omega) (fun i hi' => Nat.lt_of_le_of_lt (h.le (by omega) (by omega)) hc) h5
      · rw [if_neg hc]
        exact Jo9 h fuel lo _ (by omega) (by omega) (by omega) h4 (fun i hi' hs => Nat.le_trans (Nat.le_of_not_lt hc) (h.le hi' hs))
    · rw [if_neg hlt]
      have e : lo = hi := by omega
      subst e
      exact ⟨h2,h4,h5⟩
theorem Ji5 {xs : Array Nat} {j : Nat} (h : Rise xs) : SetTable.below xs j ≤ xs.size ∧ (∀ i,i < SetTable.below xs j → xs.getD i 0 < j) ∧ ∀ i,SetTable.below xs j ≤ i → i < xs.size → j ≤ xs.getD i 0 := by
  unfold SetTable.below
  exact Jo9 h xs.size 0 xs.size (Nat.zero_le _) (Nat.le_refl _) (by omega) (fun i hi => absurd hi (Nat.not_lt_zero _)) fun i h1 h2 => absurd h2 (by omega)
theorem Jl0 {xs : Array Nat} (h : Rise xs) {i : Nat} (hi : i < xs.size) : SetTable.below xs (xs.getD i 0 + 1) = i + 1 := by
  obtain ⟨a,b,c⟩ := Ji5 (j := xs.getD i 0 + 1) h
  generalize SetTable.below xs (xs.getD i 0 + 1) = r at a b c
  rcases Nat.lt_trichotomy r (i + 1) with z | z | z
  · have := c i (by omega) hi; omega
  · exact z
  · have h1 := b (i + 1) z
    have h2 : xs.getD i 0 < xs.getD (i + 1) 0 := h.lt (Nat.lt_succ_self i) (by omega)
    omega
theorem Jlz {xs : Array Nat} (h : Rise xs) : SetTable.below xs 0 = 0 := by
  obtain ⟨a,b,c⟩ := Ji5 (j := 0) h
  generalize SetTable.below xs 0 = r at a b c
  cases r with
  | zero => rfl
  | succ r => exact absurd (b 0 (by omega)) (Nat.not_lt_zero _)
theorem Jov {xs : Array Nat} {j : Nat} (h : Rise xs) (hn : xs[SetTable.below xs j]? ≠ some j) : Rise (SetTable.insertAt xs (SetTable.below xs j) j) := by
  obtain ⟨a,b,c⟩ := Ji5 (j := j) h
  unfold Rise
  rw [SetTable.toList_insertAt]
  generalize SetTable.below xs j = p at a b c hn
  have getT : ∀ i,i < xs.size → xs.toList[i]? = some (xs.getD i 0) := fun i hi => by
    rw [Array.getElem?_toList,Array.getD_eq_getD_getElem?,Array.getElem?_eq_getElem hi]; rfl
  refine List.pairwise_append.mpr ⟨h.sublist (List.take_sublist _ _),List.pairwise_cons.mpr ⟨fun y hy => ?_,h.sublist (List.drop_sublist _ _)⟩,fun x hx y hy => ?_⟩
  · obtain ⟨i,hi⟩ := List.mem_iff_getElem?.mp hy
    rw [List.getElem?_drop] at hi
    have hlt : p + i < xs.size := by
      have := (List.getElem?_eq_some_iff.mp hi).1
      rwa [Array.length_toList] at this
    rw [getT _ hlt] at hi
    have e := Option.some.inj hi
    have h1 := c (p + i) (Nat.le_add_right _ _) hlt
    rw [← e]
    rcases Nat.lt_or_eq_of_le h1 with z | z
    · exact z
    · exfalso
      have hp : p < xs.size := by omega
      have h2 := c p (Nat.le_refl _) hp
      have h3 := h.le (Nat.le_add_right p i) hlt
      have h4 : xs.getD p 0 = j := by omega
      apply hn
      have := getT p hp
      rw [Array.getElem?_toList] at this
      rw [this,h4]
  · have hxj : x < j := by
      obtain ⟨i,hi⟩ := List.mem_iff_getElem?.mp hx
      have hip : i < p := by
        have := (List.getElem?_eq_some_iff.mp hi).1
        rw [List.length_take] at this; omega
      rw [List.getElem?_take_of_lt hip] at hi
      have hlt : i < xs.size := by
        have := (List.getElem?_eq_some_iff.mp hi).1
        rwa [Array.length_toList] at this
      rw [getT _ hlt] at hi
      rw [← Option.some.inj hi]
      exact b i hip
    rcases List.mem_cons.mp hy with z | z
    · rw [z]; exact hxj
    · obtain ⟨i,hi⟩ := List.mem_iff_getElem?.mp z
      rw [List.getElem?_drop] at hi
      have hlt : p + i < xs.size := by
        have := (List.getElem?_eq_some_iff.mp hi).1
        rwa [Array.length_toList] at this
      rw [getT _ hlt] at hi
      rw [← Option.some.inj hi]
      exact Nat.lt_of_lt_of_le hxj (c (p + i) (Nat.le_add_right _ _) hlt)

def Off (t : SetTable) (j : Nat) : Prop := t.place[SetTable.below t.place j]? ≠ some j
theorem Jj6 {t : SetTable} {j : Nat} (h : ∀ i,t.slot j ≠ .live i) : Off t j := fun e => by
  apply h (SetTable.below t.place j)
  unfold SetTable.slot
  dsimp only
  rw [e]
  simp
theorem Jj2 {t : SetTable} {f : Nat → Int} {h : Int} {j : Nat} {d : Option Nat} : ∀ (fuel : Nat) (p : SetTable.Probe),(∀ d,p.dummy = some d → Off t d) → SetTable.probe.go t f h fuel p = some (.empty j d) → Off t j ∧ ∀ d',d = some d' → Off t d'
  | 0,_,_,e => by unfold SetTable.probe.go at e; cases e
  | fuel + 1,p,hp,e => by
    unfold SetTable.probe.go at e
    cases hs : t.slot p.j with
    | empty =>
      rw [hs] at e
      have e' := Option.some.inj e
      cases e'
      exact ⟨Jj6 (fun i z => by rw [hs] at z; exact SetTable.Slot.noConfusion z),hp⟩
    | dummy =>
      rw [hs] at e
      refine Jj2 fuel _ (fun d' hd => ?_) e
      have hd' : (t.advance { p with dummy := some p.j }).dummy = some p.j := by
        unfold SetTable.advance; dsimp only; split <;> rfl
      rw [hd'] at hd
      cases hd
      exact Jj6 fun i z => by rw [hs] at z; cases z
    | live i =>
      rw [hs] at e
      dsimp only at e
      split at e
      · cases e
      · refine Jj2 fuel _ (fun d' hd => hp d' ?_) e
        rw [← hd]
        unfold SetTable.advance
        split <;> rfl
theorem Jnz {t : SetTable} {h : Int} {j : Nat} {b : Bool} (e : t.freeSlot h = some (j,b)) : Off t j := by
  unfold SetTable.freeSlot at e
  split at e
  · rename_i j' d q
    unfold SetTable.probe at q
    obtain ⟨o1,o2⟩ := Jj2 _ _ (fun d hd => by unfold SetTable.probeStart at hd; cases hd) q
    have e' := Option.some.inj e
    cases d with
    | none => cases e'; exact o1
    | some d => cases e'; exact o2 _ rfl
  · cases e

def TabOk (L : Bool) (t : SetTable) : Prop := Rise t.place ∧ t.led = L
theorem TabOk.fresh (L : Bool) (f m : Nat) : TabOk L (.fresh f m L) := ⟨Jup,rfl⟩
theorem TabOk.standIn {L : Bool} {t : SetTable} (h : TabOk L t) (n : Nat) : TabOk L (t.standIn n) := ⟨Jqq n,h.2⟩
theorem TabOk.orStandIn {L : Bool} {t : SetTable} (h : TabOk L t) (n : Nat) : TabOk L (t.orStandIn n) := by
  unfold SetTable.orStandIn
  split
  · exact h
  · exact h.standIn n
theorem TabOk.Jxg {L : Bool} {t : SetTable} (h : TabOk L t) (b : Bool) : TabOk L { t with plain := b } := h
theorem Jq1 {L : Bool} {t : SetTable} (h : TabOk L t) (es : Array (Int × Value)) (k : Int) (x : Value) : TabOk L (layNew t es k x).2.1 := by
  unfold layNew
  split
  · rename_i slot wasDummy q
    exact TabOk.orStandIn (t := (t.put slot).1) ⟨Jov h.1 (Jnz q),h.2⟩ _
  · exact h.standIn _
theorem Jmd {α : Type} (g : Nat → Option α) : ∀ l : List Nat,List.Sublist ((l.filterMap fun j => (g j).map (j,·)).map (·.1)) l
  | [] => List.Sublist.slnil
  | j :: r => by
    rw [List.filterMap_cons]
    cases hg : g j with
    | none => exact (Jmd g r).cons j
    | some a => exact (Jmd g r).cons_cons j
theorem Jnd {L : Bool} {t : SetTable} (h : TabOk L t) (es : Array (Int × Value)) (n : Nat) : TabOk L (relayAll t es n).2.1 := by
  unfold relayAll
  split
  · rename_i t' order q
    dsimp only
    split
    · unfold SetTable.relaid SetTable.laid at q
      cases ho : SetTable.layClean (SetTable.sizeAbove n - 1) (es.map (·.1)) with
      | none => rw [ho] at q; cases q
      | some owner =>
        rw [ho] at q
        have q' := Option.some.inj q
        cases q'
        refine ⟨?_,h.2⟩
        show List.Pairwise (· < ·) (List.toArray _).toList
        exact List.pairwise_lt_range.sublist (Jmd (fun j => owner.getD j none) _)
    · exact h.standIn _
  · exact h.standIn _
end SetP
end
section
set_option maxRecDepth 100000
namespace SetP
open PySem PyProof.Rows

abbrev Jnt (w : World) : Bool := !(w.params.followText "set-order")

structure SetT (prog : Program) (w : World) (h : Heap) (a : Addr) (ds : List Int) : Prop where
  nd : ds.Nodup
  ex : ∃ o es ep t,h.get? a = some o ∧ o.ExactSet ∧ o.data = .set es ep t ∧ ElemsOf (intKind prog w) es.toList ∧ (∀ k,decide (k ∈ ds) = true ↔ ∃ e ∈ es.toList,(intKind prog w).is k e.2 = true) ∧
    es.size < scanBound ∧ t.fits es.size = true ∧ es.size = ds.length ∧ TabOk (Jnt w) t
def Jf6 (ds : List Int) (k : Int) : List Int := if k ∈ ds then ds else ds ++ [k]
theorem Jmx {ds : List Int} (h : ds.Nodup) (k : Int) : (Jf6 ds k).Nodup := by
  unfold Jf6
  split
  · exact h
  · rename_i hk
    exact List.nodup_append.mpr ⟨h,by simp,fun a ha b hb => by rw [List.mem_singleton] at hb; subst hb; rintro rfl; exact hk ha⟩
theorem Jnq {ds : List Int} {k j : Int} : j ∈ Jf6 ds k ↔ j ∈ ds ∨ j = k := by
  unfold Jf6
  split
  · rename_i hk
    exact ⟨.inl,fun z => z.elim id fun e => e ▸ hk⟩
  · rw [List.mem_append,List.mem_singleton]
theorem Jtz (ds : List Int) (k : Int) : (Jf6 ds k).length ≤ ds.length + 1 := by
  unfold Jf6
  split
  · omega
  · rw [List.length_append,List.length_singleton]; omega

section
variable {prog : Program} {w : World} {A : Around} {E : Value → Shared → Prop} {s : Shared}

theorem SetT.sameBut {h h' : Heap} {a : Addr} {ds : List Int} (x : SetT prog w h a ds) (hs : ∀ o,h.get? a = some o → h'.get? a = some o) : SetT prog w h' a ds := by
  obtain ⟨nd,o,es,ep,t,e,r⟩ := x
  exact ⟨nd,o,es,ep,t,hs o e,r⟩
theorem SetT.stored {h : Heap} {a : Addr} {o : Obj} {es es' : Array (Int × Value)} {ep : Nat} {t t' : SetTable} {ds : List Int} (ho : h.get? a = some o) (hex : o.ExactSet) (hd : o.data = .set es ep t) (nd : ds.Nodup)
    (hel : ElemsOf (intKind prog w) es'.toList) (hm : ∀ k,decide (k ∈ ds) = true ↔ ∃ e ∈ es'.toList,(intKind prog w).is k e.2 = true) (hb : es'.size < scanBound) (hf : t'.fits es'.size = true) (hn : es'.size = ds.length) (ht : TabOk (Jnt w) t') :
    (h.update a (Obj.putSet es' t')).get? a = some { o with data := .set es' (ep + 1) t' } ∧ SetT prog w (h.update a (Obj.putSet es' t')) a ds := by
  obtain ⟨g,_⟩ := SetOf_store (knd := intKind prog w) ho hex hd hel hm hb hf
  exact ⟨g,nd,_,es',ep + 1,t',g,hex,rfl,hel,hm,hb,hf,hn,ht⟩

theorem Jok {g : Bool → Sem Unit} (hg : ∀ (b : Bool) (s₁ : Shared) (Q' : Unit → Shared → Prop),Q' () s₁ → wpAny (model prog w) A (g b) Q' E s₁)
    {a : Addr} {o : Obj} {es es1 : Array (Int × Value)} {ep : Nat} {t t2 : SetTable} {ds : List Int} (ho : s.heap.get? a = some o) (hex : o.ExactSet) (hd : o.data = .set es ep t) (nd : ds.Nodup)
    (hel : ElemsOf (intKind prog w) es1.toList) (hm : ∀ k,decide (k ∈ ds) = true ↔ ∃ e ∈ es1.toList,(intKind prog w).is k e.2 = true) (hb : es1.size < scanBound) (hf : t2.fits es1.size = true) (hn : es1.size = ds.length) (ht : TabOk (Jnt w) t2)
    {dummy : Bool} {R : Option Bool → Shared → Prop} (h : ∀ h',Heap.SameBut a s.heap h' → SetT prog w h' a ds → R (some true) { s with heap := h' }) :
    wpAny (model prog w) A (do
        storeSet a es1 t2
        if (!dummy && t2.tooFull) = true then do
            g (relayAll t2 es1 (SetTable.grown es1.size)).2.2
            storeSet a (relayAll t2 es1 (SetTable.grown es1.size)).1 (relayAll t2 es1 (SetTable.grown es1.size)).2.1
            pure (some true)
          else pure (some true)) R E s := by
  obtain ⟨g1,T1⟩ := SetT.stored (prog := prog) (w := w) ho hex hd nd hel hm hb hf hn ht
  have sb1 := Heap.SameBut.update s.heap a (Obj.putSet es1 t2)
  refine wpAny_bind (wpAny_storeSet_of ho hd ?_ (fits_of_scanBound hb))
  split
  · have p := relayAll_perm t2 es1 (SetTable.grown es1.size)
    have f := relayAll_fits t2 es1 (SetTable.grown es1.size)
    have tb := Jnd ht es1 (SetTable.grown es1.size)
    generalize relayAll t2 es1 (SetTable.grown es1.size) = RR at p f tb
    obtain ⟨es2,t3,gave⟩ := RR
    have sz : es2.size = es1.size := by simpa using p.length_eq
    have T2 := SetT.stored (prog := prog) (w := w) (es' := es2) (t' := t3) g1 hex rfl nd (hel.perm p) (fun k => (hm k).trans ⟨fun ⟨e,he,q⟩ => ⟨e,p.mem_iff.mpr he,q⟩,fun ⟨e,he,q⟩ => ⟨e,p.mem_iff.mp he,q⟩⟩)
      (by rw [sz]; exact hb) f (by rw [sz]; exact hn) tb
    refine wpAny_bind (hg _ _ _ (wpAny_bind (wpAny_storeSet_of g1 rfl ?_ (fits_of_scanBound (by show es2.size < _; rw [sz]; exact hb)))))
    exact wpAny_pure (h _ (sb1.trans (Heap.SameBut.update _ a _)) T2.2)
  · exact wpAny_pure (h _ sb1 T1)

theorem Jpg {a : Addr} {ds : List Int} {k : Int} {t0 : Tok} {Q : Bool → Shared → Prop} (hS : SetT prog w s.heap a ds) (room : ds.length + 1 < scanBound)
    (h : ∀ b h',Heap.SameBut a s.heap h' → SetT prog w h' a (Jf6 ds k) → Q b { s with heap := h' }) : wpAny (model prog w) A (setAddHashed a (.int k t0) ((intKind prog w).hash k)) Q E s := by
  obtain ⟨nd,o,es,ep,t,ho,hex,hd,hel,hm,hb,hf,hn,ht⟩ := hS
  have hkey : (intKind prog w).is k (.int k t0) = true := intKind_is prog w k t0
  have hsc : (Value.int k t0).scannable = true := rfl
  unfold setAddHashed setAddHashedIn
  refine wpAny_holding (wpAny_bind (wpAny_setState_of ho hd hf ?_))
  dsimp only
  rw [byScan_of hsc hb hel,if_pos rfl]
  unfold setAddByScan
  refine wpAny_bind (wpAny_bind (wpAny_rule (wpAny_bind (wpAny_setScan_of hkey ho hd hf hel ?_))))
  cases hr : List.findIdx? (fun e => (intKind prog w).is k e.2) es.toList with
  | some j =>
    obtain ⟨hj,hpj,_⟩ := List.findIdx?_eq_some_iff_getElem.mp hr
    have hk : k ∈ ds := of_decide_eq_true ((hm k).mpr ⟨es.toList[j],List.getElem_mem hj,hpj⟩)
    refine wpAny_pure (wpAny_pure ?_)
    have q := h false s.heap (Heap.SameBut.refl a s.heap) (by
      have e : Jf6 ds k = ds := by unfold Jf6; rw [if_pos hk]
      rw [e]; exact ⟨nd,o,es,ep,t,ho,hex,hd,hel,hm,hb,hf,hn,ht⟩)
    cases s; exact q
  | none =>
    have hk : k ∉ ds := fun z => by
      obtain ⟨e,he,hp⟩ := (hm k).mp (decide_eq_true z)
      have q := List.findIdx?_eq_none_iff.mp hr e he
      rw [hp] at q; cases q
    have eA : Jf6 ds k = ds ++ [k] := by unfold Jf6; rw [if_neg hk]
    have p := layNew_perm t es ((intKind prog w).hash k) (.int k t0)
    have f := layNew_fits t es ((intKind prog w).hash k) (.int k t0)
    have tb := Jq1 ht es ((intKind prog w).hash k) (.int k t0)
    generalize layNew t es ((intKind prog w).hash k) (.int k t0) = LL at p f tb
    obtain ⟨es1,t1,dummy,gave⟩ := LL
    dsimp only at p f tb ⊢
    rw [Array.toList_push] at p
    have hel1 : ElemsOf (intKind prog w) es1.toList := (hel.push hkey hsc).perm p
    have sz : es1.size = (Jf6 ds k).length := by
      have q := p.length_eq
      rw [Array.length_toList,List.length_append,List.length_singleton,Array.length_toList] at q
      rw [q,eA,List.length_append,List.length_singleton,hn]
    have hm1 : ∀ j,decide (j ∈ Jf6 ds k) = true ↔ ∃ e ∈ es1.toList,(intKind prog w).is j e.2 = true := fun j => by
      rw [← mem_push_iff (S := fun k' => decide (k' ∈ ds)) hkey hm p j]
      simp only [decide_eq_true_eq,Bool.or_eq_true,Jnq]
    have hb1 : es1.size < scanBound := by rw [sz,eA,List.length_append,List.length_singleton]; exact room
    refine wpAny_bind ?_
    have gw : ∀ (b : Bool) (s₁ : Shared) (Q' : Unit → Shared → Prop),Q' () s₁ → wpAny (model prog w) A (match b with | true => rule "set.scan.the-table-gave-way" | false => pure ()) Q' E s₁ := fun b s₁ Q' q => by
      cases b
      · exact wpAny_pure q
      · exact wpAny_rule q
    refine gw _ _ _ ?_
    split
    · refine wpAny_bind ?_
      rw [hashByValue_scannable 8 hsc]
      refine wpAny_pure (Jok gw ho hex hd (Jmx nd k) hel1 hm1 hb1 ?_ sz ?_ fun h' sb T => wpAny_pure (h true h' sb T))
      · split
        · exact f
        · exact SetTable.fits_plain_off f
      · split
        · exact tb
        · exact tb.Jxg false
    · refine wpAny_bind (wpAny_pure ?_)
      rw [if_pos rfl]
      exact Jok gw ho hex hd (Jmx nd k) hel1 hm1 hb1 f sz tb fun h' sb T => wpAny_pure (h true h' sb T)
end
end SetP
end
section
set_option maxRecDepth 100000
namespace SetP
open PySem PyProof.Rows

theorem Jn6 : entryFor table "set.update.loop" = some Builtin.«set.update.loop» := entryFor_of_tree (by kernel_rfl)
theorem Jj3 : plainId "set.update.loop" = true := by decide +kernel
def once (ns : List Int) : List Int := ns.foldl Jf6 []
theorem Jsg (ns : List Int) (k : Int) : once (ns ++ [k]) = Jf6 (once ns) k := by unfold once; rw [List.foldl_append]; rfl
theorem Jhd : ∀ (ns : List Int),(once ns).Nodup ∧ (once ns).length ≤ ns.length ∧ ∀ j,j ∈ once ns ↔ j ∈ ns := by
  intro ns
  have all : ∀ (ns ds : List Int),ds.Nodup → (ns.foldl Jf6 ds).Nodup ∧ (ns.foldl Jf6 ds).length ≤ ds.length + ns.length ∧ ∀ j,j ∈ ns.foldl Jf6 ds ↔ j ∈ ds ∨ j ∈ ns := by
    intro ns
    induction ns with
    | nil => intro ds h; exact ⟨h,by simp,fun j => by simp⟩
    | cons n r ih =>
      intro ds h
      obtain ⟨a,b,c⟩ := ih (Jf6 ds n) (Jmx h n)
      refine ⟨a,?_,fun j => ?_⟩
      · have := Jtz ds n
        rw [List.foldl_cons,List.length_cons]; omega
      · rw [List.foldl_cons,c j,Jnq,List.mem_cons]
        constructor
        · rintro ((z | z) | z)
          · exact .inl z
          · exact .inr (.inl z)
          · exact .inr (.inr z)
        · rintro (z | z | z)
          · exact .inl (.inl z)
          · exact .inl (.inr z)
          · exact .inr z
  obtain ⟨a,b,c⟩ := all ns [] List.nodup_nil
  exact ⟨a,by rw [List.length_nil,Nat.zero_add] at b; exact b,fun j => by rw [show once ns = ns.foldl Jf6 [] from rfl,c j]; simp⟩

section
variable {prog : Program} {w : World} {A : Around} {E : Value → Shared → Prop} {s : Shared}

theorem Jua {R : Result → Shared → Prop} {S I l : Addr} {items : Array Value} {ns : List Int} (hh : A.handled = none) (hi : IntsAre items.toList ns) (hb : items.size + 1 < scanBound) (hSI : S ≠ I) (hSl : S ≠ l) (hIl : I ≠ l) :
    ∀ (k i : Nat) (s : Shared),items.size - i = k → i ≤ items.size → s.heap.IsListIter I l i → s.heap.IsList l items → SetT prog w s.heap S (once (ns.take i)) →
      (∀ h' tk,(∀ b o,b ≠ S → b ≠ I → s.heap.get? b = some o → h'.get? b = some o) → SetT prog w h' S (once ns) → R (.ok (.ret .none)) { s with heap := h',toks := tk }) →
      codeAny (model prog w) A (.builtin "set.update.loop" ⟨[.ref S,.ref I],[]⟩) R s := by
  have hlen : items.size = ns.length := by have := hi.length; simpa using this
  intro k
  induction k with
  | zero =>
    intro i s hk hi' it il T hR
    have e : i = items.size := by omega
    subst e
    refine codeAny_builtin Jn6 ?_
    rw [Around.under_plainId Jj3 _]
    show wpAny _ A.in1 (pyNext (.ref I) >>= _) _ _ s
    refine wpAny_bind (wpAny_pyNext_list_end hh it il (by simp) fun h' eb => ?_)
    show wpAny _ A.in1 (ret Value.none) _ _ _
    refine wpAny_pure (hR h' s.toks (fun b o _ hbI q => eb b o hbI q) ?_)
    rw [List.take_of_length_le (by omega)] at T
    exact T.sameBut fun o q => eb S o hSI q
  | succ k ih =>
    intro i s hk hi' it il T hR
    have hlt : i < items.size := by omega
    refine codeAny_builtin Jn6 ?_
    rw [Around.under_plainId Jj3 _]
    show wpAny _ A.in1 (pyNext (.ref I) >>= _) _ _ s
    refine wpAny_bind (wpAny_pyNext_list_item it il (x := items[i]) (by simp [hlt]) fun h1 it1 sb1 => ?_)
    have hn : i < ns.length := by omega
    obtain ⟨t0,hv⟩ : ∃ t0,items[i] = .int ns[i] t0 := by
      have all : ∀ {vs : List Value} {ms : List Int},IntsAre vs ms → ∀ (j : Nat) (h1 : j < vs.length) (h2 : j < ms.length),∃ t0,vs[j] = .int ms[j] t0 := by
        intro vs ms r
        induction r with
        | nil => intro j h1; simp at h1
        | cons n t _ ih => intro j h1 h2; cases j with
          | zero => exact ⟨t,rfl⟩
          | succ j => exact ih j (by simpa using h1) (by simpa using h2)
      have q := all hi i (by simpa using hlt) hn
      simpa using q
    rw [hv]
    show wpAny _ A.in1 (holding [Value.int ns[i] t0] (setAdd S (.int ns[i] t0)) >>= _) _ _ _
    have T1 : SetT prog w h1 S (once (ns.take i)) := T.sameBut fun o q => (sb1.2 S hSI).trans q
    have il1 : h1.IsList l items := by
      obtain ⟨o,ho,r⟩ := il
      exact ⟨o,(sb1.2 l hIl.symm).trans ho,r⟩
    refine wpAny_bind (wpAny_holding ?_)
    unfold setAdd
    refine wpAny_holding (wpAny_bind ((intKind prog w).pyHash (k := ns[i]) (intKind_is _ _ _ _) ?_))
    have room : (once (ns.take i)).length + 1 < scanBound := by
      have q := (Jhd (ns.take i)).2.1
      rw [List.length_take] at q
      omega
    refine Jpg (s := { s with heap := h1,toks := s.toks + 1 }) T1 room fun b h2 sb2 T2 => ?_
    have T2' : SetT prog w h2 S (once (ns.take (i + 1))) := by
      rw [List.take_succ_eq_append_getElem hn,Jsg]; exact T2
    refine wpAny_pure ⟨plainId_quiet Jj3 _,ih (i + 1) _ (by omega) hlt ?_ ?_ T2' fun h' tk hk' T' => ?_⟩
    · obtain ⟨o,ho,r⟩ := it1
      exact ⟨o,(sb2.2 I hSI.symm).trans ho,r⟩
    · obtain ⟨o,ho,r⟩ := il1
      exact ⟨o,(sb2.2 l hSl.symm).trans ho,r⟩
    · exact hR h' tk (fun c o hcS hcI q => hk' c o hcS hcI ((sb2.2 c hcS).trans ((sb1.2 c hcI).trans q))) T'

theorem JC7 (a : Value) {Q₁ : Value → Shared → Prop}
    (h : Q₁ (.ref s.heap.objs.size) { s with heap := s.heap.push { cls := .type "set",dict := none,data := .set #[] 0 (.fresh 0 0 (Jnt w)) } }) :
    codeAny (model prog w) A (.call (.builtin "set.__new__") ⟨[.type "set",a],[]⟩) (wants Q₁ E) s := by
  refine codeAny_of_tree ?_
  have hck : checkBuiltinCall "set.__new__" ⟨[.type "set",a],[]⟩ = pure () := by kernel_rfl
  show wpAny _ A.in1 (checkBuiltinCall "set.__new__" ⟨[.type "set",a],[]⟩ >>= fun _ => again (.builtin "set.__new__" ⟨[.type "set",a],[]⟩)) _ _ s
  rw [hck]
  refine wpAny_bind (wpAny_pure (wpAny_pure ⟨plainId_quiet F.plain_set_new _,codeAny_builtin F.entry_set_new ?_⟩))
  rw [Around.under_plainId F.plain_set_new _]
  have hsub := sub_set_self
  unfold Builtin.«set.__new__» Builtin.Frozenset.newClass
  obtain ⟨hp,g,d,tk,os⟩ := s
  dsimp only
  wp_walk
  refine wpAny_askSetting (wpAny_pure ?_)
  simp only [newObj]
  exact wpAny_bind (wpAny_alloc (wpAny_pure (wpAny_pure h)))

theorem Jv0 {M : Model} {self a : Value} {Q : Unit → Shared → Prop} (hT : s.TypeIs self "set") (hQ : Q () s) : wpAny M A (checkBuiltinCall "set.__init__" ⟨[self,a],[]⟩) Q E s := by
  simp only [checkBuiltinCall,kind_set_init,split_set_init,sig_set_init]
  refine wpAny_bind (wpAny_isInstance hT sub_set_self ?_)
  simp only [Bool.not_true,Bool.false_eq_true,if_false]
  unfold Bind.checkArgs
  dsimp only
  refine wpAny_bind (m := Bind.printed "set" true _ _) (printed_name (by decide) ?_)
  refine wpAny_bind (m := Bind.printed "*" false _ _) (printed_star (self := self) rfl hT fun short => ?_)
  have one : (if (Manifest.Receiver.self == Manifest.Receiver.none) = true then [self,a].length else [self,a].length - 1) = 1 := by
    have z : (Manifest.Receiver.self == Manifest.Receiver.none) = false := by decide
    simp [z]
  rw [one]
  simp only [List.map_nil]
  have z1 : (Manifest.ParamKind.posOnly == Manifest.ParamKind.posOnly) = true := by decide
  have z2 : (Manifest.ParamKind.posOnly == Manifest.ParamKind.posOrKw) = false := by decide
  have z3 : (Manifest.ParamKind.posOnly == Manifest.ParamKind.varPos) = false := by decide
  have fine : Bind.check ⟨.positional,"set","*",.self,[⟨"iterable",.posOnly,false⟩]⟩ "set" short 1 [] = pure () := by
    simp [Bind.check,Bind.checkCount,Bind.isPositional,z1,z2,z3]
  rw [fine]
  exact wpAny_pure hQ

set_option maxHeartbeats 3200000 in
theorem Jxn {l : Addr} {items : Array Value} {ns : List Int} {Q : Value → Shared → Prop} (hh : A.handled = none) (hl : s.heap.IsList l items) (hi : IntsAre items.toList ns) (hb : items.size + 1 < scanBound)
    (h : ∀ h' tk,(∀ b o,s.heap.get? b = some o → h'.get? b = some o) → SetT prog w h' s.heap.objs.size (once ns) → Q (.ref s.heap.objs.size) { s with heap := h',toks := tk }) :
    wpAny (model prog w) A (call (.type "set") [.ref l]) Q E s := by
  have hmade := F.called_set.made
  have hsub := F.called_set.sub
  have h1 := F.called_set.notType
  have h2 := F.called_set.canCreate
  have hct : checkTypeCall "set" ⟨[.ref l],[]⟩ = pure () := by kernel_rfl
  obtain ⟨c,tl,hmro⟩ := F.called_set.mro
  refine wpAny_call (codeAny_of_tree ?_)
  show wpAny _ _ (callAny (.type "set") ⟨[.ref l],[]⟩) _ _ s
  refine wpAny_pure ⟨Code.quiet_builtin _ (by decide +kernel),codeAny_builtin F.entry_type_call ?_⟩
  rw [Around.under_plain (weight_type_call_type "set" [.ref l] []) rfl]
  repeat (any_goals (first | assumption | wp_step))
  refine codeAny_mono (JC7 (.ref l) (E := E) (Q₁ := fun obj s₁ => obj = .ref s.heap.objs.size ∧ s₁ = { s with heap := s.heap.push { cls := .type "set",dict := none,data := .set #[] 0 (.fresh 0 0 (Jnt w)) } }) ⟨rfl,rfl⟩) fun r s₁ hr => ?_
  cases r with
  | error e => exact hr
  | ok fl =>
    cases fl with
    | ret obj =>
      obtain ⟨rfl,rfl⟩ := hr
      generalize hg1 : s.heap.push { cls := .type "set",dict := none,data := .set #[] 0 (.fresh 0 0 (Jnt w)) } = g1
      have e1 : g1.get? s.heap.objs.size = some { cls := .type "set",dict := none,data := .set #[] 0 (.fresh 0 0 (Jnt w)) } := hg1 ▸ Heap.get?_push_size _ rfl
      have k1 : ∀ b o,s.heap.get? b = some o → g1.get? b = some o := fun b o q => hg1 ▸ Heap.get?_push_of_some _ q
      have z1 : g1.objs.size = s.heap.objs.size + 1 := by rw [← hg1,Heap.size_push]
      have hT : Shared.TypeIs { s with heap := g1 } (.ref s.heap.objs.size) "set" := ⟨_,e1,rfl⟩
      have hli := F.called_set.init.lookup
      have hbi := F.called_set.init.bind (.ref s.heap.objs.size)
      repeat (any_goals (first | assumption | wp_step))
      refine codeAny_mono (codeAny_call_builtin (R := wants (fun r s₂ => r = .none ∧ ∃ h' tk,s₂ = { s with heap := h',toks := tk } ∧ (∀ b o,s.heap.get? b = some o → h'.get? b = some o) ∧ SetT prog w h' s.heap.objs.size (once ns)) E)
        F.called_set.init.plain F.entry_set_init (Jv0 hT ?_)) fun r₂ s₂ hr₂ => ?_
      · obtain ⟨ol,hol,hcl,nl,hdl⟩ := hl
        obtain ⟨ocls,odict,odata,oslots⟩ := ol
        simp only at hcl hdl
        subst hcl hdl
        have q1 : g1.get? l = some { cls := .type "list",dict := odict,data := .seq items nl,slots := oslots } := k1 _ _ hol
        have il : g1.IsList l items := ⟨_,q1,rfl,nl,rfl⟩
        have hlS : l < s.heap.objs.size := Heap.lt_size hol
        have hs1 : isSubtype (.type "list") (.type "set") = pure false := by rw [isSubtype_type]; kernel_rfl
        have hs2 : isSubtype (.type "list") (.type "frozenset") = pure false := by rw [isSubtype_type]; kernel_rfl
        have hs3 : (Value.type "list" == Value.type "dict") = false := by decide
        unfold Builtin.«set.__init__» noKeywords Builtin.Frozenset.updateFrom
        generalize hPI : pyIter = PI
        wp_walk
        subst hPI
        refine wpAny_pyIter_list il (wpAny_bind (wpAny_runValue ?_))
        have n1 : s.heap.objs.size ≠ g1.objs.size := by rw [z1]; exact Nat.ne_of_lt (Nat.lt_succ_self _)
        have n2 : s.heap.objs.size ≠ l := Nat.ne_of_gt hlS
        have n3 : g1.objs.size ≠ l := by rw [z1]; exact Nat.ne_of_gt (Nat.lt_succ_of_lt hlS)
        refine Jua (l := l) (items := items) (by simpa using hh) hi hb n1 n2 n3 (items.size - 0) 0 _ (by omega) (Nat.zero_le _) ⟨_,Heap.get?_push_size _ rfl,rfl,rfl⟩ ?_ ?_ ?_
        · obtain ⟨o,ho,r⟩ := il
          exact ⟨o,Heap.get?_push_of_some _ ho,r⟩
        · refine ⟨List.nodup_nil,_,#[],0,_,Heap.get?_push_of_some _ e1,⟨rfl,rfl,rfl⟩,rfl,fun e he => by simp at he,fun k => by simp [once],by decide,by rfl,rfl,TabOk.fresh _ _ _⟩
        · intro h' tk hk T
          show wpAny _ _ _ _ _ _
          refine wpAny_pure ?_
          show wpAny _ _ (ret Value.none) _ _ _
          refine wpAny_pure ⟨rfl,h',tk,rfl,fun b o q => ?_,T⟩
          have hb' := Heap.lt_size q
          exact hk b o (Nat.ne_of_lt hb') (by rw [z1]; exact Nat.ne_of_lt (Nat.lt_succ_of_lt hb')) (Heap.get?_push_of_some _ (k1 b o q))
      · cases r₂ with
        | error e => exact hr₂
        | ok fl₂ =>
          cases fl₂ with
          | ret r =>
            obtain ⟨rfl,h',tk,rfl,hk,T⟩ := hr₂
            repeat (any_goals (first | assumption | wp_step))
            exact h h' tk hk T
          | _ => exact hr₂.elim
    | _ => exact hr.elim
end
end SetP
end
section
set_option maxRecDepth 100000
namespace SetP
open PySem PyProof.Rows

theorem Ji1 {α : Type} : ∀ (l : List α) (i : Nat) (h : i < l.length),(l[i] :: l.eraseIdx i).Perm l
  | [],i,h => absurd h (by simp)
  | x :: r,0,_ => List.Perm.refl _
  | x :: r,i + 1,h => (List.Perm.swap x _ _).trans (List.Perm.cons x (Ji1 r i (by simpa using h)))
theorem Jj4 : ∀ {ds ns : List Int},ds.Nodup → (∀ k,k ∈ ds → k ∈ ns) → ns.length ≤ ds.length → ns.Perm ds
  | [],ns,_,_,h => by
    have e : ns = [] := List.length_eq_zero_iff.mp (by simpa using h)
    rw [e]
  | d :: r,ns,nd,sub,h => by
    have hd : d ∈ ns := sub d List.mem_cons_self
    have p := List.perm_cons_erase hd
    obtain ⟨h1,h2⟩ := List.nodup_cons.mp nd
    refine p.trans (List.Perm.cons d (Jj4 h2 (fun k hk => ?_) ?_))
    · have hne : k ≠ d := fun e => h1 (e ▸ hk)
      exact (List.mem_erase_of_ne hne).mpr (sub k (List.mem_cons_of_mem _ hk))
    · rw [List.length_erase_of_mem hd]
      rw [List.length_cons] at h
      omega
theorem Jsa {α : Type} (next : Nat → Nat) : ∀ (fuel k : Nat) (left : List α) (out : Array α),left.length = fuel → (pickOrder.go next fuel k left out).toList.Perm (out.toList ++ left)
  | 0,_,left,out,h => by
    have e : left = [] := List.length_eq_zero_iff.mp h
    subst e
    unfold pickOrder.go
    simp
  | fuel + 1,k,left,out,h => by
    unfold pickOrder.go
    have hi : next k % left.length < left.length := Nat.mod_lt _ (by omega)
    rw [List.getElem?_eq_getElem hi]
    dsimp only
    refine (Jsa next fuel (k + 1) _ _ (by rw [List.length_eraseIdx_of_lt hi]; omega)).trans ?_
    rw [Array.toList_push,List.append_assoc]
    exact List.Perm.append_left _ (Ji1 _ _ hi)
theorem Jr9 {α : Type} (next : Nat → Nat) (xs : Array α) : (pickOrder next xs).toList.Perm xs.toList := by
  unfold pickOrder
  simpa using Jsa next xs.size 0 xs.toList #[] (by simp)

section
variable {M : Model} {A : Around} {E : Value → Shared → Prop}
theorem Jq8 {src : Source} {n : Nat} {s : Shared} {Q : Nat → Shared → Prop} (hn : n ≠ 0) (h : ∀ i d',i < n → Q i { s with drawn := d' }) : wpAny M A (choose src n) Q E s :=
  fun _ _ _ => ⟨hn,h _ _ (Nat.mod_lt _ (Nat.pos_of_ne_zero hn))⟩
theorem Jii {α : Type} : ∀ (n : Nat) (xs : List α) (s : Shared) (Q : List α → Shared → Prop),xs.length ≤ n → (∀ ys d',ys.Perm xs → Q ys { s with drawn := d' }) → wpAny M A (drawOrder n xs) Q E s
  | 0,xs,s,Q,h,q => by
    have e : xs = [] := List.length_eq_zero_iff.mp (by omega)
    subst e
    unfold drawOrder
    exact wpAny_pure (q [] s.drawn (List.Perm.refl _))
  | n + 1,[],s,Q,h,q => by
    unfold drawOrder
    exact wpAny_pure (q [] s.drawn (List.Perm.refl _))
  | n + 1,x :: xs,s,Q,h,q => by
    unfold drawOrder
    refine wpAny_bind (Jq8 (by simp) fun i d' hi => ?_)
    rw [List.getElem?_eq_getElem hi]
    dsimp only
    refine wpAny_bind (Jii n _ _ _ (by rw [List.length_eraseIdx_of_lt hi]; simp at h ⊢; omega) fun ys d'' p => wpAny_pure (q _ d'' ?_))
    exact (List.Perm.cons _ p).trans (Ji1 _ _ hi)
end

theorem Jcg : Slot "set_iterator" "__next__" "set_iterator.__next__" :=
  .of (owner := "set_iterator") (n := "__next__") (by rw [typeLookup_type,builtinLookup_eq_fast]; kernel_rfl) (by decide +kernel) (by decide +kernel) (by decide +kernel)
    (by first | exact .inl (by decide +kernel) | exact .inr (by decide +kernel)) (by rw [isSubtype_type]; kernel_rfl)
theorem Jgp : entryFor table "set_iterator.__next__" = some Builtin.«set_iterator.__next__» := entryFor_of_tree (by kernel_rfl)
theorem Jha (a : Value) : argsOk "set_iterator.__next__" ⟨[a],[]⟩ := by unfold argsOk; kernel_rfl
theorem Jk3 : entryFor table "set.__iter__" = some Builtin.«frozenset.__iter__» :=
  entryFor_alias (id' := "frozenset.__iter__") (by kernel_rfl) rfl (by decide +kernel) (by kernel_rfl)

def Jjo (first : Value) (i : Nat) (S : Addr) (n ep : Nat) : Obj := { cls := .type "set_iterator",data := .fields #[first,.int i 0,.ref S,.int n 0,.int ep 0] }

inductive Road (w : World) (h : Heap) (es : Array (Int × Value)) (ep : Nat) (t : SetTable) (S it T : Addr) (vs : List Value) (i : Nat) : Value → Prop
  | text (k : Int) : w.params.followText "set-order" = true → (∀ (j : Nat),vs[j]? = ((pickOrder (w.params.setOrder S ep) es)[j]?).map fun (e : Int × Value) => e.2) → Road w h es ep t S it T vs i (.int k 0)
  | plain : w.params.followText "set-order" = false → (!t.plain && decide (es.size > 1)) = false → TabOk true t → (∀ (j : Nat),vs[j]? = (es[j]?).map fun (e : Int × Value) => e.2) → Road w h es ep t S it T vs i (.int ((if i = 0 then 0 else t.place.getD (i - 1) 0 + 1 : Nat) : Int) 0)
  | drawn (ps : List Nat) : T ≠ it → h.get? T = some { cls := .type "tuple",data := .seq (ps.map fun (p : Nat) => rawInt p).toArray 0 } → (∀ p ∈ ps,p < es.size) → (∀ (j : Nat),vs[j]? = (ps[j]?).bind fun p => (es[p]?).map fun (e : Int × Value) => e.2) → Road w h es ep t S it T vs i (.ref T)
structure Jmy (w : World) (h : Heap) (it S T : Addr) (vs : List Value) (i : Nat) : Prop where
  ne : it ≠ S
  ex : ∃ o es ep t first,h.get? S = some o ∧ o.data = .set es ep t ∧ t.fits es.size = true ∧ vs.length = es.size ∧ h.get? it = some (Jjo first i S es.size ep) ∧ Road w h es ep t S it T vs i first

section
variable {prog : Program} {w : World} {A : Around} {E : Value → Shared → Prop} {s : Shared}

theorem Jmy.keep {h h' : Heap} {it S T : Addr} {vs : List Value} {i : Nat} (x : Jmy w h it S T vs i) (k : ∀ b ∈ [it,S,T],∀ o,h.get? b = some o → h'.get? b = some o) : Jmy w h' it S T vs i := by
  obtain ⟨ne,o,es,ep,t,first,a,b,c,d,e,r⟩ := x
  refine ⟨ne,o,es,ep,t,first,k S (by simp) _ a,b,c,d,k it (by simp) _ e,?_⟩
  cases r with
  | text k1 z1 z2 => exact .text k1 z1 z2
  | plain z1 z2 z3 z4 => exact .plain z1 z2 z3 z4
  | drawn ps z1 z2 z3 z4 => exact .drawn ps z1 (k T (by simp) _ z2) z3 z4

theorem JBj {S : Addr} {ds : List Int} {Q : Value → Shared → Prop} (hS : SetT prog w s.heap S ds)
    (h : ∀ h' d' it T vs,(∀ b o,s.heap.get? b = some o → h'.get? b = some o) → s.heap.objs.size ≤ it → (T = S ∨ s.heap.objs.size ≤ T) → Jmy w h' it S T vs 0 → (∃ ns,IntsAre vs ns ∧ ns.Perm ds) → Q (.ref it) { s with heap := h',drawn := d' }) :
    wpAny (model prog w) A (pyIter (.ref S)) Q E s := by
  obtain ⟨nd,o,es,ep,t,ho,hex,hd,hel,hm,hb,hf,hn,ht⟩ := hS
  have hT : s.TypeIs (.ref S) "set" := ⟨o,ho,hex.1⟩
  have hlt := Heap.lt_size ho
  -- the members as ints
  have intsV : ∀ (l : List (Int × Value)),ElemsOf (intKind prog w) l → ∃ ns,IntsAre (l.map (·.2)) ns ∧ ∀ k,k ∈ ns ↔ ∃ e ∈ l,(intKind prog w).is k e.2 = true := by
    intro l
    induction l with
    | nil => intro _; exact ⟨[],.nil,fun k => by simp⟩
    | cons e r ih =>
      intro he
      obtain ⟨ns,a,b⟩ := ih he.tail
      obtain ⟨⟨k0,hk0,_⟩,_⟩ := he.head
      obtain ⟨t0,e0⟩ := Value.isInt_shape (show Value.isInt k0 e.2 = true from hk0)
      refine ⟨k0 :: ns,by rw [List.map_cons,e0]; exact .cons k0 t0 a,fun k => ?_⟩
      rw [List.mem_cons,b k]
      constructor
      · rintro (z | ⟨e',he',q⟩)
        · exact ⟨e,List.mem_cons_self,by rw [z]; exact hk0⟩
        · exact ⟨e',List.mem_cons_of_mem _ he',q⟩
      · rintro ⟨e',he',q⟩
        rcases List.mem_cons.mp he' with z | z
        · subst z; exact .inl ((intKind prog w).inj _ _ _ q hk0)
        · exact .inr ⟨e',z,q⟩
  -- any order of the members is the ints in some order
  have fin : ∀ (l : List (Int × Value)),l.Perm es.toList → ∃ ns,IntsAre (l.map (·.2)) ns ∧ ns.Perm ds := fun l p => by
    obtain ⟨ns,a,b⟩ := intsV l (hel.perm p)
    refine ⟨ns,a,?_⟩
    have hsub : ds ⊆ ns := fun k hk => (b k).mpr (by
      obtain ⟨e,he,q⟩ := (hm k).mp (decide_eq_true hk)
      exact ⟨e,p.mem_iff.mpr he,q⟩)
    have hle : ns.length ≤ ds.length := by
      have q1 : (l.map (·.2)).length = ns.length := IntsAre.length a
      rw [List.length_map] at q1
      exact Nat.le_of_eq (by rw [← q1,p.length_eq,Array.length_toList,hn])
    exact Jj4 nd (fun k hk => hsub hk) hle
  refine wpAny_pyIter_slot hT F.slot_set_iter (wpAny_call_entry F.slot_set_iter hT Jk3 ?_ (F.args_set_iter_1 _))
  unfold Builtin.«frozenset.__iter__» Builtin.Frozenset.slot0 slotArgs
  simp only [List.isEmpty_nil,Bool.not_true,Bool.false_eq_true,↓reduceIte,bind_assoc,List.length_nil,bne_self_eq_false]
  unfold Builtin.Frozenset.addrOf Builtin.Frozenset.sizeOf
  refine wpAny_bind (wpAny_pure ?_)
  try dsimp only
  refine wpAny_bind (wpAny_pure ?_)
  refine wpAny_bind (wpAny_bind (wpAny_setEntries_of ho hd hf (wpAny_pure ?_)))
  unfold setDrawn setsByText
  simp only [bind_assoc]
  refine wpAny_bind (wpAny_setState_of ho hd hf ?_)
  refine wpAny_bind (wpAny_askSetting ?_)
  refine wpAny_bind (wpAny_pure (wpAny_bind (wpAny_pure ?_)))
  show wpAny (model prog w) A.in1 (if (!(w.params.followText "set-order") && (!t.plain && decide (es.size > 1))) = true then _ else _) _ _ s
  have len2 : ∀ (ps : List Nat),ps.Perm (List.range es.size) → ((ps.filterMap fun p => es[p]?)).Perm es.toList ∧ ∀ (j : Nat),((ps.filterMap fun p => es[p]?).map (·.2))[j]? = (ps[j]?).bind fun p => (es[p]?).map fun (e : Int × Value) => e.2 := fun ps p => by
    refine ⟨(p.filterMap _).trans (by rw [filterMap_getElem?_range]),?_⟩
    have all : ∀ (ps : List Nat),(∀ p ∈ ps,p < es.size) → ∀ (j : Nat),((ps.filterMap fun p => es[p]?).map (·.2))[j]? = (ps[j]?).bind fun p => (es[p]?).map fun (e : Int × Value) => e.2 := by
      intro ps
      induction ps with
      | nil => intro _ j; simp
      | cons q r ih =>
        intro hq j
        have hq' : q < es.size := hq q List.mem_cons_self
        rw [List.filterMap_cons_some (b := es[q]) (by simp [hq'])]
        cases j with
        | zero => simp [hq']
        | succ j => simpa using ih (fun p hp => hq p (List.mem_cons_of_mem _ hp)) j
    exact all ps fun q hq => List.mem_range.mp (p.mem_iff.mp hq)
  split
  · rename_i hc
    refine wpAny_bind (Jii es.size (List.range es.size) s _ (by simp) fun ps d' p => ?_)
    obtain ⟨p1,p2⟩ := len2 ps p
    refine wpAny_bind (wpAny_newObj_type ?_ ?_)
    · refine wpAny_bind (wpAny_setEpoch_of (Heap.get?_push_of_some _ ho) hd hf ?_)
      refine wpAny_bind (wpAny_newObj_type (wpAny_pure ⟨_,rfl,"set_iterator",_,⟨_,Heap.get?_push_size _ rfl,rfl⟩,Jcg.lookup,?_⟩))
      refine h _ d' _ s.heap.objs.size ((ps.filterMap fun p => es[p]?).map (·.2)) (fun b o' e => Heap.get?_push_of_some _ (Heap.get?_push_of_some _ e)) ?_ (.inr (Nat.le_refl _)) ?_ (fin _ p1)
      · show s.heap.objs.size ≤ (s.heap.push _).objs.size
        rw [Heap.size_push]; exact Nat.le_succ _
      · refine ⟨?_,o,es,ep,t,_,Heap.get?_push_of_some _ (Heap.get?_push_of_some _ ho),hd,hf,?_,Heap.get?_push_size _ rfl,.drawn ps ?_ (Heap.get?_push_of_some _ (Heap.get?_push_size _ rfl)) (fun q hq => List.mem_range.mp (p.mem_iff.mp hq)) p2⟩
        · show (s.heap.push _).objs.size ≠ S
          rw [Heap.size_push]; exact Nat.ne_of_gt (Nat.lt_succ_of_lt hlt)
        · rw [List.length_map,p1.length_eq,Array.length_toList]
        · show s.heap.objs.size ≠ (s.heap.push _).objs.size
          rw [Heap.size_push]; exact Nat.ne_of_lt (Nat.lt_succ_self _)
    · show _ ≤ sizeLine
      rw [List.size_toArray,List.length_map,p.length_eq,List.length_range]
      exact fits_of_scanBound hb
  · rename_i hc
    refine wpAny_bind (wpAny_pure (wpAny_bind (wpAny_setEpoch_of ho hd hf ?_)))
    refine wpAny_bind (wpAny_newObj_type (wpAny_pure ⟨_,rfl,"set_iterator",_,⟨_,Heap.get?_push_size _ rfl,rfl⟩,Jcg.lookup,?_⟩))
    by_cases ht' : w.params.followText "set-order" = true
    · have pp := Jr9 (w.params.setOrder S ep) es
      have q := h (s.heap.push (Jjo (rawInt 0) 0 S es.size ep)) s.drawn s.heap.objs.size S ((pickOrder (w.params.setOrder S ep) es).toList.map (·.2)) (fun b o' e => Heap.get?_push_of_some _ e) (Nat.le_refl _) (.inl rfl)
        ⟨Nat.ne_of_gt hlt,o,es,ep,t,_,Heap.get?_push_of_some _ ho,hd,hf,by rw [List.length_map,pp.length_eq,Array.length_toList],Heap.get?_push_size _ rfl,.text 0 ht' fun j => by rw [List.getElem?_map,Array.getElem?_toList]⟩ (fin _ pp)
      exact q
    · have hf' : w.params.followText "set-order" = false := by simpa using ht'
      have hL : Jnt w = true := by show (!_) = true; rw [hf']; rfl
      rw [hL] at ht
      have hdr : (!t.plain && decide (es.size > 1)) = false := by
        rw [hf'] at hc
        simpa using hc
      have q := h (s.heap.push (Jjo (rawInt 0) 0 S es.size ep)) s.drawn s.heap.objs.size S (es.toList.map (·.2)) (fun b o' e => Heap.get?_push_of_some _ e) (Nat.le_refl _) (.inl rfl)
        ⟨Nat.ne_of_gt hlt,o,es,ep,t,_,Heap.get?_push_of_some _ ho,hd,hf,by rw [List.length_map,Array.length_toList],Heap.get?_push_size _ rfl,.plain hf' hdr ht fun j => by rw [List.getElem?_map,Array.getElem?_toList]⟩ (fin _ (List.Perm.refl _))
      exact q
end
end SetP
end
section
set_option maxRecDepth 100000
namespace SetP
open PySem PyProof.Rows

section
variable {prog : Program} {w : World} {A : Around} {E : Value → Shared → Prop} {s : Shared}

theorem Jlk (first x : Value) (i : Nat) (S : Addr) (n ep : Nat) : Obj.mapFields (·.setIfInBounds 0 x) (Jjo first i S n ep) = Jjo x i S n ep := rfl
theorem Jq2 (first : Value) (i : Nat) (S : Addr) (n ep : Nat) : Obj.mapFields (·.setIfInBounds 1 (rawInt ((i : Int) + 1))) (Jjo first i S n ep) = Jjo first (i + 1) S n ep := rfl

theorem Ji7 {S : Addr} {o : Obj} {es : Array (Int × Value)} {ep slot given : Nat} {t : SetTable} {Q : Option (Value × Nat) → Shared → Prop} (ho : s.heap.get? S = some o) (hd : o.data = .set es ep t) (hf : t.fits es.size = true)
    (z : w.params.followText "set-order" = true) (h : Q (((pickOrder (w.params.setOrder S ep) es)[given]?).map fun e => (e.2,slot)) s) : wpAny (model prog w) A (setNext S slot given ep) Q E s := by
  unfold setNext
  refine wpAny_bind (wpAny_setState_of ho hd hf ?_)
  unfold setsByText
  refine wpAny_bind (wpAny_bind (wpAny_askSetting (wpAny_pure ?_)))
  show wpAny _ _ (if (w.params.followText "set-order") = true then _ else _) _ _ s
  rw [if_pos z]
  show wpAny _ _ (if (ep != ep) = true then _ else _) _ _ s
  rw [if_neg (by simp)]
  unfold setWalk
  refine wpAny_bind (wpAny_bind (wpAny_setState_of ho hd hf ?_))
  unfold setsByText
  refine wpAny_bind (wpAny_bind (wpAny_askSetting (wpAny_pure ?_)))
  show wpAny _ _ (if (w.params.followText "set-order") = true then _ else _) _ _ s
  rw [if_pos z]
  exact wpAny_bind (wpAny_askSetting (wpAny_pure (wpAny_pure h)))
theorem Jh7 {S : Addr} {o : Obj} {es : Array (Int × Value)} {ep slot given : Nat} {t : SetTable} {Q : Option (Value × Nat) → Shared → Prop} (ho : s.heap.get? S = some o) (hd : o.data = .set es ep t) (hf : t.fits es.size = true)
    (z : w.params.followText "set-order" = false) (z2 : (!t.plain && decide (es.size > 1)) = false) (z3 : t.led = true)
    (h : Q (match es[SetTable.below t.place slot]?,t.place[SetTable.below t.place slot]? with | some (_,x),some j => some (x,j + 1) | _,_ => none) s) : wpAny (model prog w) A (setNext S slot given ep) Q E s := by
  unfold setNext
  refine wpAny_bind (wpAny_setState_of ho hd hf ?_)
  unfold setsByText
  refine wpAny_bind (wpAny_bind (wpAny_askSetting (wpAny_pure ?_)))
  show wpAny _ _ (if (w.params.followText "set-order") = true then _ else _) _ _ s
  rw [if_neg (by rw [z]; simp)]
  show wpAny _ _ (if (!t.plain && decide (es.size > 1)) = true then _ else _) _ _ s
  rw [if_neg (by rw [z2]; simp)]
  refine wpAny_bind ?_
  show wpAny _ _ (if (!t.led && !es.isEmpty) = true then _ else _) _ _ s
  rw [if_neg (by rw [z3]; simp)]
  exact wpAny_pure (wpAny_pure h)

theorem Jqv {it S T : Addr} {vs : List Value} {i : Nat} {v : Value} {Q : Option Value → Shared → Prop} (x : Jmy w s.heap it S T vs i) (hv : vs[i]? = some v)
    (h : ∀ h',Heap.SameBut it s.heap h' → Jmy w h' it S T vs (i + 1) → Q (some v) { s with heap := h' }) : wpAny (model prog w) A (pyNext (.ref it)) Q E s := by
  obtain ⟨ne,o,es,ep,t,first,ho,hd,hf,hl,hi,r⟩ := x
  have hT : s.TypeIs (.ref it) "set_iterator" := ⟨_,hi,rfl⟩
  unfold pyNext
  refine wpAny_bind (wpAny_attempt (wpAny_callSpecial?_slot (name := Str.ofString "__next__") hT Jcg (wpAny_call_entry Jcg hT Jgp ?_ (Jha _))))
  unfold Builtin.«set_iterator.__next__» slotArgs
  simp only [List.isEmpty_nil,Bool.not_true,Bool.false_eq_true,↓reduceIte,List.length_nil,bne_self_eq_false]
  refine wpAny_bind (wpAny_pure ?_)
  refine wpAny_bind (wpAny_fieldsOf hi rfl ?_)
  show wpAny _ _ (setEntries S >>= _) _ _ s
  refine wpAny_bind (wpAny_setEntries_of ho hd hf ?_)
  show wpAny _ _ (if ((es.size : Int) != (es.size : Int)) = true then _ else _) _ _ s
  rw [if_neg (by simp)]
  have lt : i < vs.length := (List.getElem?_eq_some_iff.mp hv).1
  have upd1 : ∀ {h1 : Heap} {f1 : Value},h1.get? it = some (Jjo f1 i S es.size ep) → (h1.update it (Obj.mapFields (·.setIfInBounds 1 (rawInt ((i : Int) + 1))))).get? it = some (Jjo f1 (i + 1) S es.size ep) := fun {h1 f1} e => by
    rw [← Jq2 f1 i S es.size ep]; exact Heap.get?_update_self _ e rfl
  have upd0 : ∀ {h1 : Heap} {f1 y : Value},h1.get? it = some (Jjo f1 i S es.size ep) → (h1.update it (Obj.mapFields (·.setIfInBounds 0 y))).get? it = some (Jjo y i S es.size ep) := fun {h1 f1 y} e => by
    rw [← Jlk f1 y i S es.size ep]; exact Heap.get?_update_self _ e rfl
  cases r with
  | text k z1 z2 =>
    show wpAny _ _ (setNext S k.toNat i ep >>= _) _ _ s
    refine wpAny_bind (Ji7 ho hd hf z1 ?_)
    have q := z2 i
    rw [hv] at q
    cases hp : (pickOrder (w.params.setOrder S ep) es)[i]? with
    | none => rw [hp] at q; cases q
    | some e =>
      rw [hp] at q
      have q' : v = e.2 := Option.some.inj q
      subst q'
      refine wpAny_bind (wpAny_setField hi rfl (by simp) (wpAny_bind (wpAny_setField (upd0 hi) rfl (by simp) (wpAny_pure ⟨_,rfl,wpAny_pure (h _ ((Heap.SameBut.update ..).trans (Heap.SameBut.update ..)) ⟨ne,o,es,ep,t,_,?_,hd,hf,hl,upd1 (upd0 hi),.text _ z1 z2⟩)⟩))))
      rw [Heap.get?_update_other _ _ ne,Heap.get?_update_other _ _ ne]; exact ho
  | plain z1 z2 z3 z4 =>
    show wpAny _ _ (setNext S (Int.toNat ((if i = 0 then 0 else t.place.getD (i - 1) 0 + 1 : Nat) : Int)) i ep >>= _) _ _ s
    rw [Int.toNat_natCast]
    refine wpAny_bind (Jh7 ho hd hf z1 z2 z3.2 ?_)
    have psz : t.place.size = es.size := by
      have q := hf
      simp only [SetTable.fits,Bool.and_eq_true,beq_iff_eq] at q
      exact q.1
    have hb : SetTable.below t.place (if i = 0 then 0 else t.place.getD (i - 1) 0 + 1) = i := by
      cases i with
      | zero => rw [if_pos rfl]; exact Jlz z3.1
      | succ i => rw [if_neg (by omega)]; exact Jl0 z3.1 (by omega)
    rw [hb]
    have q := z4 i
    rw [hv] at q
    have hie : i < es.size := by omega
    have hip : i < t.place.size := by omega
    rw [Array.getElem?_eq_getElem hie] at q ⊢
    rw [Array.getElem?_eq_getElem hip]
    have q' : v = es[i].2 := Option.some.inj q
    subst q'
    show wpAny _ _ (setField (.ref it) 0 (rawInt ((t.place[i] + 1 : Nat) : Int)) >>= _) _ _ s
    refine wpAny_bind (wpAny_setField hi rfl (by simp) (wpAny_bind (wpAny_setField (upd0 hi) rfl (by simp) (wpAny_pure ⟨_,rfl,wpAny_pure (h _ ((Heap.SameBut.update ..).trans (Heap.SameBut.update ..)) ⟨ne,o,es,ep,t,_,?_,hd,hf,hl,upd1 (upd0 hi),?_⟩)⟩))))
    · rw [Heap.get?_update_other _ _ ne,Heap.get?_update_other _ _ ne]; exact ho
    · have e : t.place[i] = t.place.getD (i + 1 - 1) 0 := by
        rw [Array.getD_eq_getD_getElem?,Nat.add_sub_cancel,Array.getElem?_eq_getElem hip]; rfl
      have rr : ∀ hp : Heap,Road w hp es ep t S it T vs (i + 1) (.int ((t.place[i] + 1 : Nat) : Int) 0) := fun hp => by
        have r1 : Road w hp es ep t S it T vs (i + 1) (.int ((if i + 1 = 0 then 0 else t.place.getD (i + 1 - 1) 0 + 1 : Nat) : Int) 0) := .plain z1 z2 z3 z4
        rw [if_neg (by omega),← e] at r1
        exact r1
      exact rr _
  | drawn ps z1 z2 z3 z4 =>
    show wpAny _ _ (seqItems? (.ref T) >>= _) _ _ s
    refine wpAny_bind (wpAny_seqItems z2 rfl ?_)
    have q := z4 i
    rw [hv] at q
    cases hp : ps[i]? with
    | none => rw [hp] at q; cases q
    | some p =>
      rw [hp] at q
      have hlt : p < es.size := z3 p (List.mem_of_getElem? hp)
      have q2 : some v = (es[p]?).map fun (e : Int × Value) => e.2 := q
      rw [Array.getElem?_eq_getElem hlt] at q2
      have q' : v = es[p].2 := Option.some.inj q2
      subst q'
      have hg : ((ps.map fun (p : Nat) => rawInt p).toArray)[i]? = some (rawInt p) := by
        rw [List.getElem?_toArray,List.getElem?_map,hp]; rfl
      show wpAny _ _ (match ((ps.map fun (p : Nat) => rawInt p).toArray)[(i : Int).toNat]? with | some (.int place _) => _ | some _ => _ | none => _) _ _ s
      rw [Int.toNat_natCast,hg]
      show wpAny _ _ (setNextDrawn S p ep >>= _) _ _ s
      unfold setNextDrawn
      refine wpAny_bind (wpAny_bind (wpAny_setState_of ho hd hf ?_))
      show wpAny _ _ (if (ep != ep) = true then _ else _) _ _ s
      rw [if_neg (by simp)]
      dsimp only
      rw [Array.getElem?_eq_getElem hlt]
      refine wpAny_pure ?_
      refine wpAny_bind (wpAny_setField hi rfl (by simp) (wpAny_pure ⟨_,rfl,wpAny_pure (h _ (Heap.SameBut.update ..) ⟨ne,o,es,ep,t,_,?_,hd,hf,hl,upd1 hi,.drawn ps z1 ?_ z3 z4⟩)⟩))
      · rw [Heap.get?_update_other _ _ ne]; exact ho
      · rw [Heap.get?_update_other _ _ z1.symm]; exact z2

theorem Jsj {it S T : Addr} {vs : List Value} {Q : Option Value → Shared → Prop} (hh : A.handled = none) (x : Jmy w s.heap it S T vs vs.length)
    (h : ∀ h',Heap.ExtBut it s.heap h' → Q none { s with heap := h' }) : wpAny (model prog w) A (pyNext (.ref it)) Q E s := by
  obtain ⟨ne,o,es,ep,t,first,ho,hd,hf,hl,hi,r⟩ := x
  have hT : s.TypeIs (.ref it) "set_iterator" := ⟨_,hi,rfl⟩
  unfold pyNext
  refine wpAny_bind (wpAny_attempt (wpAny_callSpecial?_slot (name := Str.ofString "__next__") hT Jcg (wpAny_call_entry Jcg hT Jgp ?_ (Jha _))))
  unfold Builtin.«set_iterator.__next__» slotArgs
  simp only [List.isEmpty_nil,Bool.not_true,Bool.false_eq_true,↓reduceIte,List.length_nil,bne_self_eq_false]
  refine wpAny_bind (wpAny_pure ?_)
  refine wpAny_bind (wpAny_fieldsOf hi rfl ?_)
  show wpAny _ _ (setEntries S >>= _) _ _ s
  refine wpAny_bind (wpAny_setEntries_of ho hd hf ?_)
  show wpAny _ _ (if ((es.size : Int) != (es.size : Int)) = true then _ else _) _ _ s
  rw [if_neg (by simp)]
  have stop : ∀ {s1 : Shared},Heap.ExtBut it s.heap s1.heap → s1 = { s with heap := s1.heap } → wpAny (model prog w) A.in1 (newExc (.type "StopIteration") [] >>= fun e => (raiseNew e : Sem Fin)) (fun fin s' => ∃ v,fin = .done (.ret v) ∧ wpAny (model prog w) A (pure (some v)) Q E s')
      (fun e s' => wpAny (model prog w) A (do if ← isInstance e (.type "StopIteration") then pure none else throw e) Q E s') s1 := fun {s1} eb es1 => by
    refine wpAny_bind ?_
    simp only [newExc,newTuple]
    refine wpAny_bind (wpAny_newObj_type ?_ (by size_fits))
    refine wpAny_bind (m := firstArgMember _ _) (wpAny_of_eq (a := Value.none) (by first | rfl | (simp only [firstArgMember]; rfl)) ?_)
    refine wpAny_newObj_type ?_ (by size_fits)
    simp only [raiseNew]
    refine wpAny_bind (wpAny_handled ?_)
    rw [show A.in1.handled = none from hh]
    refine wpAny_bind (wpAny_pure (wpAny_throw ?_))
    refine wpAny_bind (wpAny_isInstance (T := "StopIteration") (b := true) ⟨_,Heap.get?_push_size _ rfl,rfl⟩ isSubtype_stop ?_)
    rw [if_pos rfl,es1]
    exact wpAny_pure (h _ ((eb.push _).push _))
  cases r with
  | text k z1 z2 =>
    show wpAny _ _ (setNext S k.toNat vs.length ep >>= _) _ _ s
    refine wpAny_bind (Ji7 ho hd hf z1 ?_)
    have q := z2 vs.length
    rw [List.getElem?_eq_none (Nat.le_refl _)] at q
    cases hp : (pickOrder (w.params.setOrder S ep) es)[vs.length]? with
    | some e => rw [hp] at q; cases q
    | none =>
      refine wpAny_bind (wpAny_setField hi rfl (by simp) ?_)
      exact stop (s1 := { s with heap := s.heap.update it (Obj.mapFields (·.setIfInBounds 2 Value.none)) }) (Heap.SameBut.update ..).extBut rfl
  | plain z1 z2 z3 z4 =>
    generalize hsl : (if vs.length = 0 then 0 else t.place.getD (vs.length - 1) 0 + 1 : Nat) = sl
    show wpAny _ _ (setNext S (Int.toNat (sl : Int)) vs.length ep >>= _) _ _ s
    rw [Int.toNat_natCast]
    refine wpAny_bind (Jh7 ho hd hf z1 z2 z3.2 ?_)
    have psz : t.place.size = es.size := by
      have q := hf
      simp only [SetTable.fits,Bool.and_eq_true,beq_iff_eq] at q
      exact q.1
    have hb : SetTable.below t.place sl = vs.length := by
      rw [← hsl]
      generalize vs.length = n at hl
      cases n with
      | zero => rw [if_pos rfl]; exact Jlz z3.1
      | succ i => rw [if_neg (by omega)]; exact Jl0 z3.1 (by omega)
    rw [hb,hl,Array.getElem?_eq_none (Nat.le_refl _)]
    refine wpAny_bind (wpAny_setField hi rfl (by simp) ?_)
    exact stop (s1 := { s with heap := s.heap.update it (Obj.mapFields (·.setIfInBounds 2 Value.none)) }) (Heap.SameBut.update ..).extBut rfl
  | drawn ps z1 z2 z3 z4 =>
    show wpAny _ _ (seqItems? (.ref T) >>= _) _ _ s
    refine wpAny_bind (wpAny_seqItems z2 rfl ?_)
    have q := z4 vs.length
    rw [List.getElem?_eq_none (Nat.le_refl _)] at q
    have hg : ((ps.map fun (p : Nat) => rawInt p).toArray)[vs.length]? = none := by
      rw [List.getElem?_toArray,List.getElem?_map]
      cases hp : ps[vs.length]? with
      | none => rfl
      | some p =>
        rw [hp] at q
        have hlt : p < es.size := z3 p (List.mem_of_getElem? hp)
        have q2 : none = (es[p]?).map fun (e : Int × Value) => e.2 := q
        rw [Array.getElem?_eq_getElem hlt] at q2
        cases q2
    show wpAny _ _ (match ((ps.map fun (p : Nat) => rawInt p).toArray)[(vs.length : Int).toNat]? with | some (.int place _) => _ | some _ => _ | none => _) _ _ s
    rw [Int.toNat_natCast,hg]
    refine wpAny_bind (wpAny_setField hi rfl (by simp) ?_)
    have e0 : (s.heap.update it (Obj.mapFields (·.setIfInBounds 0 (rawInt 0)))).get? it = some (Jjo (rawInt 0) vs.length S es.size ep) := by
      rw [← Jlk (.ref T) (rawInt 0) vs.length S es.size ep]; exact Heap.get?_update_self _ hi rfl
    refine wpAny_bind (wpAny_setField e0 rfl (by simp) ?_)
    exact stop (s1 := { s with heap := (s.heap.update it (Obj.mapFields (·.setIfInBounds 0 (rawInt 0)))).update it (Obj.mapFields (·.setIfInBounds 2 Value.none)) }) ((Heap.SameBut.update ..).trans (Heap.SameBut.update ..)).extBut rfl
end
end SetP
end
section
set_option maxRecDepth 100000
namespace SetP
open PySem PyProof.Rows

theorem Jgt : Slot "set_iterator" "__iter__" "set_iterator.__iter__" :=
  .of (owner := "set_iterator") (n := "__iter__") (by rw [typeLookup_type,builtinLookup_eq_fast]; kernel_rfl) (by decide +kernel) (by decide +kernel) (by decide +kernel)
    (by first | exact .inl (by decide +kernel) | exact .inr (by decide +kernel)) (by rw [isSubtype_type]; kernel_rfl)
theorem Jjq : entryFor table "set_iterator.__iter__" = some Builtin.«dict_keyiterator.__iter__» :=
  entryFor_alias (id' := "dict_keyiterator.__iter__") (by kernel_rfl) rfl (by decide +kernel) (by kernel_rfl)
theorem Jkw (a : Value) : argsOk "set_iterator.__iter__" ⟨[a],[]⟩ := by unfold argsOk; kernel_rfl
theorem Jq0 : typeLookup (.type "set") "__len__" = pure (some (.builtin "set.__len__")) := F.slot_set_len.lookup

section
variable {prog : Program} {w : World} {A : Around} {E : Value → Shared → Prop} {s : Shared}

theorem Jxe (hh : A.handled = none) (it S T : Addr) (vs : List Value) : Walks prog w A it [it,S,T] [it] vs.length (fun i v => vs[i]? = some v) (fun i h => Jmy w h it S T vs i) where
  sub := fun b hb => by simp at hb; subst hb; simp
  frame := fun i h h' x k => x.keep fun b hb o e => k b hb o e
  item := fun i s Q E hi x hQ => by
    have hv : vs[i]? = some vs[i] := List.getElem?_eq_getElem hi
    exact Jqv x hv fun h' sb x' => hQ _ h' s.toks hv x' fun b o hb e => (sb.2 b (by simpa using hb)).trans e
  done := fun s Q E x hQ => Jsj hh x fun h' eb => hQ h' s.toks fun b o hb e => eb b o (by simpa using hb) e
  self := fun i s Q E x hQ => by
    obtain ⟨_,o,es,ep,t,first,_,_,_,_,hi,_⟩ := x
    have hT : s.TypeIs (.ref it) "set_iterator" := ⟨_,hi,rfl⟩
    refine wpAny_pyIter_slot hT Jgt (wpAny_call_entry Jgt hT Jjq ?_ (Jkw _))
    show wpAny _ _ (ret (.ref it)) _ _ s
    exact wpAny_pure ⟨_,rfl,"set_iterator",_,hT,Jcg.lookup,hQ⟩

theorem JBm {S : Addr} {Q : Bool → Shared → Prop} (hT : s.TypeIs (.ref S) "set") (h : Q false s) : wpAny (model prog w) A (Builtin.List.listLengthHint (.ref S)) Q E s := by
  unfold Builtin.List.listLengthHint
  refine wpAny_bind (wpAny_specialOf hT Jq0 ?_)
  have hs : splitId "set.__len__" = some ("set","__len__") := by decide +kernel
  dsimp only
  rw [hs]
  dsimp only
  refine wpAny_bind (wpAny_isInstance hT sub_set_self ?_)
  simp only [Bool.not_true,Bool.false_eq_true,if_false]
  refine wpAny_bind (wpAny_typeOf hT ?_)
  exact wpAny_pure h

theorem Jth {S : Addr} {ds : List Int} {Q : List Value → Shared → Prop} (hh : A.handled = none) (hS : SetT prog w s.heap S ds) (h64 : ds.length < 64)
    (h : ∀ h' d' tk vs ns,(∀ b o,s.heap.get? b = some o → h'.get? b = some o) → IntsAre vs ns → ns.Perm ds → Q vs { s with heap := h',drawn := d',toks := tk }) : wpAny (model prog w) A (collect (.ref S)) Q E s := by
  obtain ⟨o,ho,hex⟩ : ∃ o,s.heap.get? S = some o ∧ o.ExactSet := by
    obtain ⟨_,o,es,ep,t,ho,hex,_⟩ := hS
    exact ⟨o,ho,hex⟩
  have hlt := Heap.lt_size ho
  unfold collect
  refine wpAny_bind (wpAny_runValue (codeAny_builtin F.entry_proto_collect ?_))
  rw [Around.under_plainId F.plain_proto_collect _]
  show wpAny _ A.in1 (newList [] >>= fun l => again (.builtin "list.__iadd__" ⟨[l,.ref S],[]⟩)) _ _ s
  refine wpAny_bind (wpAny_newObj_type (wpAny_pure ⟨plainId_quiet F.plain_list_iadd _,codeAny_builtin F.entry_list_iadd ?_⟩))
  rw [Around.under_plainId F.plain_list_iadd _]
  generalize hL : s.heap.objs.size = L
  generalize hg : s.heap.push { cls := .type "list",dict := none,data := .seq ([] : List Value).toArray } = g
  have k1 : ∀ b o,s.heap.get? b = some o → g.get? b = some o := fun b o e => hg ▸ Heap.get?_push_of_some _ e
  have hLg : g.get? L = some { cls := .type "list",data := .seq ([] : List Value).toArray } := hg ▸ hL ▸ Heap.get?_push_size _ rfl
  have hsz : g.objs.size = L + 1 := by rw [← hg,Heap.size_push,hL]
  have hLS : L ≠ S := by rw [← hL]; exact Nat.ne_of_gt hlt
  have hT : Shared.TypeIs { s with heap := g } (.ref S) "set" := ⟨o,k1 _ _ ho,hex.1⟩
  show wpAny _ A.in1 (Builtin.List.listExtendWith (.ref L) (.ref S) (.ref L)) _ _ _
  unfold Builtin.List.listExtendWith
  refine wpAny_bind (wpAny_typeOf hT ?_)
  have h1 : Builtin.List.listSameRef (.ref L) (.ref S) = false := by simp [Builtin.List.listSameRef,hLS]
  have h2 : (Value.type "set" == Value.type "list") = false := by decide
  have h3 : (Value.type "set" == Value.type "tuple") = false := by decide
  simp only [h1,h2,h3,Bool.or_false,Bool.false_eq_true,if_false]
  refine wpAny_bind (JBj (s := { s with heap := g }) (hS.sameBut fun o e => k1 _ _ e) fun g2 d2 it T vs k2 hit hTT x ⟨ns,hi,hp⟩ => ?_)
  have hT2 : Shared.TypeIs { s with heap := g2,drawn := d2 } (.ref S) "set" := ⟨o,k2 _ _ (k1 _ _ ho),hex.1⟩
  refine wpAny_bind (wpAny_holding (JBm hT2 ?_))
  have hit' : L < it := by
    have hit2 : g.objs.size ≤ it := hit
    omega
  show wpAny _ A.in1 (rule "list.extend.makes-room" >>= fun _ => Builtin.List.listTouch (.ref L) >>= fun _ => again (.builtin "list.extend.loop" ⟨[.ref L,.ref it,.ref L],[]⟩)) _ _ _
  refine wpAny_bind (wpAny_rule (wpAny_bind ?_))
  have e1 := k2 _ _ hLg
  show wpAny _ A.in1 (updateSeq L (·.push .none) >>= fun _ => updateSeq L (·.pop)) _ _ _
  refine wpAny_bind (wpAny_updateSeq e1 rfl ?_)
  have e2 := Heap.get?_update_self (Obj.mapSeq (·.push Value.none)) e1 rfl
  refine wpAny_updateSeq e2 rfl ?_
  have e3 := Heap.get?_update_self (Obj.mapSeq (·.pop)) e2 rfl
  have oth : ∀ b o,b ≠ L → g2.get? b = some o → ((g2.update L (Obj.mapSeq (·.push Value.none))).update L (Obj.mapSeq (·.pop))).get? b = some o := fun b o hb e => (Heap.get?_update_other _ _ (Ne.symm hb)).trans ((Heap.get?_update_other _ _ (Ne.symm hb)).trans e)
  have hvn : vs.length = ns.length := IntsAre.length hi
  have hv64 : vs.length < 64 := by rw [hvn,hp.length_eq]; exact h64
  have hz : vs.length ≤ sizeLine := by rw [sizeLine_eq]; omega
  have nin : L ∉ [it,S,T] := fun z => by
    simp only [List.mem_cons,List.not_mem_nil,or_false] at z
    rcases z with z | z | z
    · omega
    · exact hLS z
    · rcases hTT with q | q
      · exact hLS (z.trans q)
      · have q' : g.objs.size ≤ T := q
        omega
  have W := (Jxe (prog := prog) (w := w) (A := A.in1) (by simpa using hh) it S T vs).toS
  have x3 : Jmy w ((g2.update L (Obj.mapSeq (·.push Value.none))).update L (Obj.mapSeq (·.pop))) it S T vs 0 := x.keep fun b hb o e => oth b o (fun z => nin (z ▸ hb)) e
  refine wpAny_pure ⟨plainId_quiet F.plain_extend_loop _,codeAny_extend_loopS W hz L nin _ vs.length 0 _ _ _ (by omega) (Nat.zero_le _) x3 e3 (ItemsOf.nil _) fun s' acc c hm hS' hacc => ?_⟩
  show wpAny _ A (load L >>= _) _ _ s'
  refine wpAny_bind (wpAny_load hS' ?_)
  have eacc : acc.toList = vs := by
    apply List.ext_getElem?
    intro j
    rw [Array.getElem?_toList]
    cases hj : acc[j]? with
    | some v => exact (hacc.2 j v hj).symm
    | none =>
      have : acc.size ≤ j := by simpa using hj
      rw [hacc.1] at this
      exact (List.getElem?_eq_none this).symm
  obtain ⟨h',g',d',tk,os'⟩ := s'
  have q1 : g' = s.gens := hm.gens
  have q2 : os' = s.os := hm.os
  subst q1 q2
  refine wpAny_pure ?_
  show Q acc.toList _
  rw [eacc]
  refine h h' d' tk vs ns (fun b o e => hm.heap b o ?_ (oth b o ?_ (k2 _ _ (k1 _ _ e)))) hi hp
  · have hb : b < L := by rw [← hL]; exact Heap.lt_size e
    intro z
    rcases List.mem_cons.mp z with z | z
    · exact absurd z (Nat.ne_of_lt hb)
    · exact absurd (List.mem_singleton.mp z) (Nat.ne_of_lt (Nat.lt_trans hb hit'))
  · exact Nat.ne_of_lt (by rw [← hL]; exact Heap.lt_size e)

theorem Jjy {h : Heap} {a : Addr} {vs : List Value} {n : Nat} {out : Array Value} (ho : h.get? a = some (seqObj "list" vs.toArray n)) : ∃ n',(sortedHeap h a vs out).get? a = some (seqObj "list" out n') := by
  unfold sortedHeap
  have q1 := get?_update_seq ho (fun _ => #[])
  exact ⟨_,get?_update_seq (Heap.get?_push_of_some _ (Heap.get?_push_of_some _ q1)) (fun _ => out)⟩
theorem Jjj {h : Heap} {a b : Addr} {vs : List Value} {out : Array Value} {o : Obj} (hb : b ≠ a) (ho : h.get? b = some o) : (sortedHeap h a vs out).get? b = some o := by
  unfold sortedHeap
  rw [Heap.get?_update_other _ _ (Ne.symm hb)]
  exact Heap.get?_push_of_some _ (Heap.get?_push_of_some _ ((Heap.get?_update_other _ _ (Ne.symm hb)).trans ho))

theorem Juh {S : Addr} {ds : List Int} {Q : Value → Shared → Prop} (hh : A.handled = none) (hS : SetT prog w s.heap S ds) (h64 : ds.length < 64)
    (h : ∀ h' d' tk l vs ns n,(∀ b o,s.heap.get? b = some o → h'.get? b = some o) → (∀ b o,s.heap.get? b = some o → b < l) → h'.get? l = some { cls := .type "list",data := .seq vs n } → IntsAre vs.toList ns → ns.Perm ds → ns.Pairwise (· ≤ ·) → Q (.ref l) { s with heap := h',drawn := d',toks := tk }) :
    wpAny (model prog w) A (call (.builtin "sorted") [.ref S]) Q E s := by
  refine Calls.call_function_entry kind_sorted plain_sorted entry_sorted (args_sorted1 _) ?_
  unfold Builtin.«sorted»
  refine wpAny_bind (m := checkCount "sorted" 1 1 _) (wpAny_pure ?_)
  refine wpAny_bind (Jth (A := A.in1) (by simpa using hh) hS h64 fun h1 d1 t1 vs ns k1 hi hp => ?_)
  have hv64 : vs.length < 64 := by rw [show vs.length = ns.length from IntsAre.length hi,hp.length_eq]; exact h64
  refine wpAny_bind (wpAny_newList ?_)
  have hoL : (h1.push (seqObj "list" vs.toArray 0)).get? h1.objs.size = some (seqObj "list" vs.toArray 0) := Heap.get?_push_size _ rfl
  show wpAny _ _ _ _ _ { s with heap := h1.push (seqObj "list" vs.toArray 0),drawn := d1,toks := t1 }
  refine wpAny_bind (wpAny_holding (wpAny_call_entry slot_list_sort ⟨_,hoL,rfl⟩ entry_list_sort (list_sort_tree hoL hi hv64 fun out ns' a1 a2 a3 => ⟨_,rfl,?_⟩) (args_list_sort _)))
  refine wpAny_pure ⟨_,rfl,?_⟩
  have old : ∀ b o,s.heap.get? b = some o → b ≠ h1.objs.size := fun b o e => Nat.ne_of_lt (Heap.lt_size (k1 b o e))
  obtain ⟨n',e'⟩ := Jjy (out := out) hoL
  refine h _ d1 t1 h1.objs.size out ns' n' (fun b o e => Jjj (old b o e) (Heap.get?_push_of_some _ (k1 b o e))) (fun b o e => Heap.lt_size (k1 b o e)) e' a1 (a2.trans hp) a3
end
end SetP
end
section
set_option Elab.async false
set_option maxRecDepth 10000
set_option linter.all false
namespace L2
open PySem PySem.Spec PyProof.Rows

def PTs (X : Cx) (ifs : List Expr) (t : TT) : Prop :=
  ∀ (pins : List (Addr × Obj)) (s : Shared) (σ : St) (H : Hp) (Q : Bool → Hp → Prop),Inv X pins σ H s → t σ H Q →
    wpAny (model X.prog X.w) X.A (forIn ifs true fun c r => if r = true then do let ok ← isTrue c X.env (eval c X.env); pure (ForInStep.yield ok) else pure (ForInStep.yield r)) (TP X pins σ Q) X.xe s
def tYes : TT := fun _ H Q => Q true H
theorem Jxy {X : Cx} : PTs X [] tYes := fun _ _ _ H _ I h => wpAny_pure ⟨H,I,h⟩
theorem Jxx {X : Cx} {c : Expr} {t : TT} (h : PT X c t) : PTs X [c] t := by
  intro pins s σ H Q I hw
  rw [List.forIn_cons]
  simp only [if_true]
  refine wpAny_bind (wpAny_bind (thn (h pins s σ H Q I hw) fun b s1 hb => wpAny_pure ?_))
  show wpAny _ _ (pure b) _ _ _
  exact wpAny_pure hb

def Low (k : Nat) (g : TG) : Prop := ∀ x σ H Q,g x σ H Q → g x σ H fun σ' H' => Q σ' H' ∧ σ'.length = σ.length ∧ ∀ j,k ≤ j → σ'[j]? = σ[j]?
def LowS (k : Nat) (g : TGs) : Prop := ∀ x σ H Q,g x σ H Q → g x σ H fun σ' H' => Q σ' H' ∧ σ'.length = σ.length ∧ ∀ j,k ≤ j → σ'[j]? = σ[j]?
theorem Ju6 {k i : Nat} (h : i < k) : Low k (Jv2 i) := fun x σ H Q q =>
  ⟨q,List.length_set ..,fun j hj => List.getElem?_set_ne (by omega)⟩
theorem Jyp {k : Nat} : LowS k gNil := fun _ _ _ _ ⟨e,q⟩ => ⟨e,q,rfl,fun _ _ => rfl⟩
theorem Ju7 {k : Nat} {t : TG} {u : TGs} (ht : Low k t) (hu : LowS k u) (mono : ∀ x σ H Q Q',(∀ σ' H',Q σ' H' → Q' σ' H') → t x σ H Q → t x σ H Q')
    (monoU : ∀ x σ H Q Q',(∀ σ' H',Q σ' H' → Q' σ' H') → u x σ H Q → u x σ H Q') : LowS k (Jza t u) := fun x σ H Q ⟨v,r,e,q⟩ => by
  refine ⟨v,r,e,mono v σ H _ _ (fun σ1 H1 z => ?_) (ht v σ H _ q)⟩
  obtain ⟨z1,z2,z3⟩ := z
  exact monoU r σ1 H1 _ _ (fun σ2 H2 y => ⟨y.1,y.2.1.trans z2,fun j hj => (y.2.2 j hj).trans (z3 j hj)⟩) (hu r σ1 H1 _ z1)
theorem Jyo {K : PySem.W.Frag} {n k : Nat} {t : TGs} (h : LowS k t) : Low k (gTup K n t) := fun x σ H Q ⟨a,xs,e,hs,hl,q⟩ => ⟨a,xs,e,hs,hl,h xs σ H Q q⟩
def compLook (sc : Scope) (N N2 : List Str) (k : Nat) (caps : List Nat) (scope : Scope) : Bool :=
  decide (scope.kind = .function) && scope.names.all (fun y => decide (y.2 ≠ .cell) || decide (scope.names.lookup y.1 = some .cell)) && scope.names.all (fun y => decide (y.2 ≠ .local) || decide (scope.names.lookup y.1 = some .local)) &&
  scope.names.all (fun y => decide (y.2 ≠ .free) || decide (sc.names.lookup y.1 = some .cell) || decide (sc.names.lookup y.1 = some .free)) && decide N2.Nodup && decide (N2.length = k + caps.length) &&
  (List.range caps.length).all fun j => match caps[j]?,N2[k + j]? with
    | some i,some y => decide (N[i]? = some y) && decide (scope.names.lookup y = some .free)
    | _,_ => false
structure Jcw (sc : Scope) (N N2 : List Str) (k : Nat) (caps : List Nat) (scope : Scope) : Prop where
  kind : scope.kind = .function
  one : ∀ y ∈ scope.names,y.2 = .cell → scope.names.lookup y.1 = some .cell
  loc : ∀ y ∈ scope.names,y.2 = .local → scope.names.lookup y.1 = some .local
  free : ∀ y ∈ scope.names,y.2 = .free → sc.names.lookup y.1 = some .cell ∨ sc.names.lookup y.1 = some .free
  nd : N2.Nodup
  len : N2.length = k + caps.length
  cap : ∀ j i,caps[j]? = some i → ∃ y,N2[k + j]? = some y ∧ N[i]? = some y ∧ scope.names.lookup y = some .free
theorem Jcw.of {sc : Scope} {N N2 : List Str} {k : Nat} {caps : List Nat} {scope : Scope} (h : compLook sc N N2 k caps scope = true) : Jcw sc N N2 k caps scope := by
  unfold compLook at h
  simp only [Bool.and_eq_true,List.all_eq_true,Bool.or_eq_true,decide_eq_true_eq] at h
  obtain ⟨⟨⟨⟨⟨⟨h1,h2⟩,h3⟩,h4⟩,h5⟩,h6⟩,h7⟩ := h
  refine ⟨h1,fun y hy e => ?_,fun y hy e => ?_,fun y hy e => ?_,h5,h6,fun j i e => ?_⟩
  · rcases h2 y hy with z | z
    · exact absurd e z
    · exact z
  · rcases h3 y hy with z | z
    · exact absurd e z
    · exact z
  · rcases h4 y hy with (z | z) | z
    · exact absurd e z
    · exact .inl z
    · exact .inr z
  · have hj : j ∈ List.range caps.length := List.mem_range.mpr (List.getElem?_eq_some_iff.mp e).1
    have q := h7 j hj
    rw [e] at q
    cases hy : N2[k + j]? with
    | none => rw [hy] at q; exact absurd q (by simp)
    | some y =>
      rw [hy] at q
      simp only [Bool.and_eq_true,decide_eq_true_eq] at q
      exact ⟨y,rfl,q.1,q.2⟩

theorem Ji9 {env : Env} : ∀ {names : List (Str × NameKind)} {x : Str},names.lookup x = some .free →
    (names.map fun (n,k) => if (k == NameKind.free && env.scope.kind == .function && env.kindOf n == some .cell) then (n,NameKind.cell) else (n,k)).lookup x = some .cell ∨
    (names.map fun (n,k) => if (k == NameKind.free && env.scope.kind == .function && env.kindOf n == some .cell) then (n,NameKind.cell) else (n,k)).lookup x = some .free
  | [],_,h => by simp at h
  | (n,k) :: r,x,h => by
    have ih := @Ji9 env r x
    show List.lookup x ((if (k == NameKind.free && env.scope.kind == .function && env.kindOf n == some .cell) = true then (n,NameKind.cell) else (n,k)) :: _) = _ ∨ List.lookup x ((if (k == NameKind.free && env.scope.kind == .function && env.kindOf n == some .cell) = true then (n,NameKind.cell) else (n,k)) :: _) = _
    cases hx : x == n with
    | true =>
      simp only [List.lookup_cons,hx] at h
      cases h
      by_cases hc : (NameKind.free == NameKind.free && env.scope.kind == .function && env.kindOf n == some .cell) = true
      · rw [if_pos hc]; left; simp only [List.lookup_cons,hx]
      · rw [if_neg hc]; right; simp only [List.lookup_cons,hx]
    | false =>
      simp only [List.lookup_cons,hx] at h
      by_cases hc : (k == NameKind.free && env.scope.kind == .function && env.kindOf n == some .cell) = true
      · rw [if_pos hc]; simp only [List.lookup_cons,hx]; exact ih h
      · rw [if_neg hc]; simp only [List.lookup_cons,hx]; exact ih h
theorem Jja {env : Env} : ∀ {names : List (Str × NameKind)} {x : Str},
    ((names.map fun (n,k) => if (k == NameKind.free && env.scope.kind == .function && env.kindOf n == some .cell) then (n,NameKind.cell) else (n,k)).lookup x = some .cell ∨
     (names.map fun (n,k) => if (k == NameKind.free && env.scope.kind == .function && env.kindOf n == some .cell) then (n,NameKind.cell) else (n,k)).lookup x = some .free) → names.lookup x = some .free ∨ names.lookup x = some .cell
  | [],_,h => by simp at h
  | (n,k) :: r,x,h => by
    have ih := @Jja env r x
    cases hx : x == n with
    | true =>
      simp only [List.lookup_cons,hx]
      by_cases hf : k = .free
      · rw [hf]; exact .inl rfl
      · have hkf : (k == NameKind.free) = false := by
          cases k <;> first | rfl | exact absurd rfl hf
        simp only [List.map_cons,hkf,Bool.false_and,Bool.false_eq_true,if_false,List.lookup_cons,hx] at h
        rcases h with z | z
        · exact .inr z
        · exact absurd (Option.some.inj z) hf
    | false =>
      simp only [List.lookup_cons,hx]
      refine ih ?_
      have h' : List.lookup x ((if (k == NameKind.free && env.scope.kind == .function && env.kindOf n == some .cell) = true then (n,NameKind.cell) else (n,k)) :: List.map _ r) = some .cell ∨ List.lookup x ((if (k == NameKind.free && env.scope.kind == .function && env.kindOf n == some .cell) = true then (n,NameKind.cell) else (n,k)) :: List.map _ r) = some .free := h
      by_cases hcc : (k == NameKind.free && env.scope.kind == .function && env.kindOf n == some .cell) = true
      · rw [if_pos hcc] at h'; simp only [List.lookup_cons,hx] at h'; exact h'
      · rw [if_neg hcc] at h'; simp only [List.lookup_cons,hx] at h'; exact h'

theorem Jd7 : ∀ (names : List (Str × NameKind)) (n : Nat) (acc : List (Str × Addr)),cellsFrom n names acc = cellsFrom n names [] ++ acc
  | [],_,_ => rfl
  | (x,k) :: r,n,acc => by
    unfold cellsFrom
    split
    · rw [Jd7 r (n + 1) ((x,n) :: acc),Jd7 r (n + 1) [(x,n)],List.append_assoc]; rfl
    · exact Jd7 r n acc
theorem Jgl : ∀ (names : List (Str × NameKind)) (n : Nat) {x : Str} {c : Addr},(x,c) ∈ cellsFrom n names [] → (x,NameKind.cell) ∈ names
  | [],_,_,_,h => by simp [cellsFrom] at h
  | (y,k) :: r,n,x,c,h => by
    unfold cellsFrom at h
    split at h
    · rename_i hk
      rw [Jd7] at h
      rcases List.mem_append.mp h with z | z
      · exact List.mem_cons_of_mem _ (Jgl r (n + 1) z)
      · have z' : (x,c) = (y,n) := by simpa using z
        have hk' : k = .cell := by simpa using hk
        cases z'
        rw [hk']; exact List.mem_cons_self
    · exact List.mem_cons_of_mem _ (Jgl r n h)
theorem Jqz {cs ds : List (Str × Addr)} {x : Str} {c : Addr} (h : (cs ++ ds).lookup x = some c) : cs.lookup x = some c ∨ (cs.lookup x = none ∧ ds.lookup x = some c) := by
  rw [List.lookup_append] at h
  cases e : cs.lookup x with
  | none => rw [e] at h; exact .inr ⟨rfl,h⟩
  | some d => rw [e] at h; exact .inl h
theorem Jo3 {M : Model} {A : Around} {E : Value → Shared → Prop} {s : Shared} {scope : Scope} {globals : Addr} {cl : List (Str × Addr)} {qual : Str} {env : Env} {Q : Env → Shared → Prop}
    (hQ : ∀ h' : Heap,h'.Ns s.heap.objs.size (fun _ => none) → (∀ b o,s.heap.get? b = some o → h'.get? b = some o) → CellsOk h' (s.heap.objs.size + 1) (cellsFrom (s.heap.objs.size + 1) scope.names []) →
      Q { scope,locals := s.heap.objs.size,globals,cells := cellsFrom (s.heap.objs.size + 1) scope.names [] ++ cl,qual,func := none,code := env.code,frame := env.frame,builtins := env.builtins } { s with heap := h' }) :
    wpAny M A (newFunctionEnv scope globals cl [] qual none .none (some env)) Q E s := by
  simp only [newFunctionEnv,Option.isSome_some,if_true]
  refine wpAny_bind (wpAny_alloc ?_)
  refine wpAny_bind (wpAny_layCells _ (fun name kind cells => by cases hkc : kind == NameKind.cell <;> simp [hkc]) _ _ _ _ ?_)
  rw [show ({ s with heap := s.heap.push { cls := .type "dict",data := .dict #[] } } : Shared).heap.objs.size = s.heap.objs.size + 1 from Heap.size_push ..]
  have ok := cellsFrom_ok scope.names (s.heap.push { cls := .type "dict",data := .dict #[] }) (s.heap.objs.size + 1) [] ⟨fun _ _ hm => (nomatch hm),List.Pairwise.nil⟩ (by rw [Heap.size_push]; exact Nat.le_refl _)
  rw [Heap.size_push] at ok
  rw [Jd7]
  refine wpAny_bind ?_
  rw [List.forIn_nil]
  refine wpAny_pure (wpAny_pure (hQ _ ?_ ?_ ok))
  · exact (Heap.Ns.new s.heap (.type "dict")).keeps (pushCells_keeps _ _)
  · exact fun b o e => pushCells_keeps _ _ b o (Heap.get?_push_of_some _ e)

theorem Jlt {scope : Scope} {env : Env} (h : ∀ y ∈ scope.names,y.2 = .free → ∃ c,env.cells.lookup y.1 = some c) :
    ∃ cl,closureFor scope env = pure cl ∧ (∀ x c,cl.lookup x = some c → env.cells.lookup x = some c) ∧ ∀ x,scope.names.lookup x = some .free → ∃ c,cl.lookup x = some c := by
  have all : ∀ (names : List (Str × NameKind)) (cs : List (Str × Addr)),(∀ y ∈ names,y.2 = .free → ∃ c,env.cells.lookup y.1 = some c) → (∀ x c,cs.lookup x = some c → env.cells.lookup x = some c) →
      ∃ cl,(forIn names cs (fun (x : Str × NameKind) (cs : List (Str × Addr)) => (match x with
          | (name,kind) => if (kind == NameKind.free) = true then (cellOf env name >>= fun a => pure (ForInStep.yield ((name,a) :: cs))) else pure (ForInStep.yield cs) : Sem (ForInStep (List (Str × Addr)))) ) : Sem (List (Str × Addr))) = pure cl ∧
        (∀ x c,cl.lookup x = some c → env.cells.lookup x = some c) ∧ (∀ x c,cs.lookup x = some c → ∃ c',cl.lookup x = some c') ∧ ∀ x,names.lookup x = some .free → ∃ c,cl.lookup x = some c := by
    intro names
    induction names with
    | nil => intro cs _ hc; exact ⟨cs,rfl,hc,fun x c e => ⟨c,e⟩,fun x e => by simp at e⟩
    | cons y r ih =>
      intro cs hy hc
      obtain ⟨n,kd⟩ := y
      by_cases hk : kd = .free
      · subst hk
        obtain ⟨c,hcn⟩ := hy (n,.free) List.mem_cons_self rfl
        have hc' : ∀ x c',((n,c) :: cs).lookup x = some c' → env.cells.lookup x = some c' := fun x c' e => by
          rw [List.lookup_cons] at e
          cases hx : x == n with
          | true =>
            rw [hx] at e
            have hxn : x = n := by simpa using hx
            rw [hxn,hcn]; exact e
          | false => rw [hx] at e; exact hc x c' e
        obtain ⟨cl,e1,e2,e3,e4⟩ := ih ((n,c) :: cs) (fun z hz => hy z (List.mem_cons_of_mem _ hz)) hc'
        refine ⟨cl,?_,e2,fun x c' e => ?_,fun x e => ?_⟩
        · rw [List.forIn_cons]
          have hb : (NameKind.free == NameKind.free) = true := rfl
          simp only [hb,if_true,cellOf,hcn,pure_bind]
          exact e1
        · by_cases hx : (x == n) = true
          · exact e3 x c (by rw [List.lookup_cons,hx])
          · have hx' : (x == n) = false := by simpa using hx
            exact e3 x c' (by rw [List.lookup_cons,hx']; exact e)
        · rw [List.lookup_cons] at e
          cases hx : x == n with
          | true => exact e3 x c (by rw [List.lookup_cons,hx])
          | false => rw [hx] at e; exact e4 x e
      · have hb : (kd == NameKind.free) = false := by
          cases kd <;> first | rfl | exact absurd rfl hk
        obtain ⟨cl,e1,e2,e3,e4⟩ := ih cs (fun z hz => hy z (List.mem_cons_of_mem _ hz)) hc
        refine ⟨cl,?_,e2,e3,fun x e => ?_⟩
        · rw [List.forIn_cons]
          simp only [hb,Bool.false_eq_true,if_false,pure_bind]
          exact e1
        · rw [List.lookup_cons] at e
          cases hx : x == n with
          | true => rw [hx] at e; exact absurd (Option.some.inj e) hk
          | false => rw [hx] at e; exact e4 x e
  obtain ⟨cl,e1,e2,_,e4⟩ := all scope.names [] h (fun x c e => by simp at e)
  refine ⟨cl,?_,e2,e4⟩
  unfold closureFor
  rw [← bind_pure (pure cl : Sem _),← e1]

abbrev Jc0 (X : Cx) (N2 : List Str) (scope : Scope) (cl : List (Str × Addr)) (C : Addr) (s : Shared) (H : Hp) (ex : List Addr) : Cx :=
  { X with N := N2,s₀ := s,H₀ := H,env := compEnvC scope cl C X.env,outer := X.stack,ex := ex,fn := fun x => decide (scope.names.lookup x = some .cell),pn := [],xe := fun _ _ => False }
def capS (k : Nat) (caps : List Nat) (σ : St) : St := List.replicate k none ++ caps.map fun j => (σ[j]?).join

def JDw (J : It) (k : Nat) (caps : List Nat) (σ : St) (g : TG) (tt : TT) (te : TE) (Q : VK) (H1 : Hp) : Prop := ∃ W : Nat → Nat → List V → Hp → Prop,(∃ m,W 0 m [] H1) ∧ ∀ i m ys H,W i m ys H →
  (J.stop i H ∧ ∀ p,H p = none → Q (.ref p) (upd H p (.lst ys))) ∨
  (J.go i H ∧ ys.length < sizeLine ∧ ∀ x H',J.yld i H x H' → g x (capS k caps σ) H' fun σ2 H2 => tt σ2 H2 fun b H3 =>
    if b = true then te σ2 H3 fun v H4 => ∃ m',m' < m ∧ W (i + 1) m' (ys ++ [v]) H4 else ∃ m',m' < m ∧ W (i + 1) m' ys H3)
def Jxk (k : Nat) (caps : List Nat) (wi : TI) (g : TG) (tt : TT) (te : TE) : TE := fun σ H Q => wi σ H fun J H1 => JDw J k caps σ g tt te Q H1

theorem Jtj {k : Nat} {caps : List Nat} {σ : St} {i : Nat} {v : V} (h : (capS k caps σ)[i]? = some (some v)) : ∃ j a,i = k + j ∧ caps[j]? = some a ∧ σ[a]? = some (some v) := by
  unfold capS at h
  by_cases hi : i < k
  · rw [List.getElem?_append_left (by simpa using hi),List.getElem?_replicate,if_pos hi] at h
    cases h
  · rw [List.getElem?_append_right (by simpa using hi),List.length_replicate,List.getElem?_map] at h
    cases e : caps[i - k]? with
    | none => rw [e] at h; cases h
    | some a =>
      rw [e] at h
      have h' : (σ[a]?).join = some v := Option.some.inj h
      refine ⟨i - k,a,by omega,e,?_⟩
      cases e2 : σ[a]? with
      | none => rw [e2] at h'; cases h'
      | some o =>
        rw [e2] at h'
        cases o with
        | none => cases h'
        | some v' =>
          have h'' : some v' = some v := h'
          rw [h'']

theorem Jk6 {a b n : Nat} (h1 : a < n) (h2 : n ≤ b) : a ≠ b := by omega
section
variable {X : Cx} {pins : List (Addr × Obj)} {σ : St}

theorem Inv.but {H : Hp} {s : Shared} {C : Addr} {h' : Heap} (I : Inv X pins σ H s) (hb : Heap.SameBut C s.heap h') (hn : H C = none) (hL : C ≠ X.env.locals) (h1 : X.s₀.heap.objs.size ≤ C) (h2 : ∀ x c,X.env.cells.lookup x = some c → c ≠ C) (h3 : ∀ p ∈ X.pn ++ pins,p.1 ≠ C) :
    Inv X pins σ H { s with heap := h' } := I.turned (t' := s.toks) (fun b o hne e => (hb.2 b hne).trans e) hn hL (.inr h1) h2 h3

theorem Jls {s2 : Shared} {H2 : Hp} {elt tg iter : Expr} {ifs : List Expr} {scope : Scope} {pos : Pos} {N2 : List Str} {k : Nat} {caps : List Nat} {cl : List (Str × Addr)} {g : TG} {tt : TT} {te : TE} {E : Value → Shared → Prop}
    {it : Addr} {fp : List Addr} {tn : Nat → Heap → Prop} {J : It} {RR : Value → Addr → Result → Shared → Prop} {Qe : List V → Hp → Prop} {W : Nat → Nat → List V → Hp → Prop} {m0 : Nat}
    (hc : X.calm = true) (hS : Jcw X.env.scope X.N N2 k caps scope) (hlow : Low k g)
    (hcl : ∀ x c,cl.lookup x = some c → X.env.cells.lookup x = some c) (hcf : ∀ x,scope.names.lookup x = some .free → ∃ c,cl.lookup x = some c)
    (hb : ∀ (cl : List (Str × Addr)) (C : Addr) (s : Shared) (H : Hp) (ex : List Addr),PG (Jc0 X N2 scope cl C s H ex) tg g ∧ PTs (Jc0 X N2 scope cl C s H ex) ifs tt ∧ PE (Jc0 X N2 scope cl C s H ex) elt te)
    (I2 : Inv X pins σ H2 s2) (T : Turn X.prog X.w X.K tg J fp it tn) (st2 : tn 0 s2.heap) (f2 : ∀ b ∈ fp,FpOk X pins H2 b) (w0 : W 0 m0 [] H2)
    (turn : ∀ i m ys H,W i m ys H → (J.stop i H ∧ Qe ys H) ∨
      (J.go i H ∧ ys.length < sizeLine ∧ ∀ x H',J.yld i H x H' → g x (capS k caps σ) H' fun σ2 H2 => tt σ2 H2 fun b H3 =>
        if b = true then te σ2 H3 fun v H4 => ∃ m',m' < m ∧ W (i + 1) m' (ys ++ [v]) H4 else ∃ m',m' < m ∧ W (i + 1) m' ys H3))
    (hRR : ∀ D C s' H' ys,s2.heap.objs.size ≤ D → s2.heap.objs.size ≤ C → C ≠ D → H' D = none → H' C = none → Inv X pins σ (upd H' D (.lst ys)) s' → (∃ m,s'.heap.Ns C m) → Qe ys H' → RR (.ref D) C (.ok .next) s') :
    wpAny (model X.prog X.w) X.A (newList []) (fun acc s₃ => wpAny (model X.prog X.w) X.A (newFunctionEnv scope X.env.globals cl [] X.env.qual none .none (some X.env)) (fun cenv s₄ =>
      codeAny (model X.prog X.w) X.A (.compStart (.ListComp elt [⟨tg,iter,ifs,0⟩] scope pos) 0 (.ref it) acc { cenv with scope := relabel scope X.env }) (RR acc cenv.locals) s₄) E s₃) E s2 := by
  refine wpAny_newObj_type (Jo3 fun h₁ hns₁ kp cok => ?_)
  dsimp only at hns₁ kp cok ⊢
  generalize hH3 : s2.heap.push { cls := .type "list",dict := none,data := .seq ([] : List Value).toArray } = H3 at hns₁ kp cok ⊢
  have hC : H3.objs.size = s2.heap.objs.size + 1 := by rw [← hH3,Heap.size_push]
  generalize hDD : s2.heap.objs.size = D at hC
  generalize hCC : H3.objs.size = C at hns₁ cok hC ⊢
  have hDC : D ≠ C := by omega
  have szD : s2.heap.objs.size ≤ D := Nat.le_of_eq hDD
  have szC : s2.heap.objs.size ≤ C := by rw [hDD,hC]; exact Nat.le_succ _
  have below : ∀ b o,s2.heap.get? b = some o → b ≠ C ∧ b ≠ D := fun b o e => ⟨Jk6 (Heap.lt_size e) szC,Jk6 (Heap.lt_size e) szD⟩
  have old : ∀ b o,s2.heap.get? b = some o → h₁.get? b = some o := fun b o e => kp b o (hH3 ▸ Heap.get?_push_of_some _ e)
  have hacc : h₁.get? D = some { cls := .type "list",data := .seq ([] : List Value).toArray 0 } := kp _ _ (hH3 ▸ hDD ▸ Heap.get?_push_size _ rfl)
  have f2h : ∀ b ∈ fp,∃ o,s2.heap.get? b = some o := fun b hbf => let ⟨o,e,_⟩ := T.obj 0 _ st2 b hbf; ⟨o,e⟩
  -- the block's context
  have okc : ∀ x c,X.env.cells.lookup x = some c → ∃ o,s2.heap.get? c = some o := fun x c e => let ⟨_,o,ho,_⟩ := I2.cell x c e; ⟨o,ho⟩
  have oMem : ∀ x c,(cellsFrom (C + 1) scope.names []).lookup x = some c → C + 1 ≤ c ∧ h₁.IsCell c none ∧ scope.names.lookup x = some .cell := fun x c e => by
    have m := PySem.mem_of_lookup e
    exact ⟨(cok.empty x c m).2,(cok.empty x c m).1,hS.one _ (Jgl _ _ m) rfl⟩
  have oHas : ∀ x,scope.names.lookup x = some .cell → ∃ c,(cellsFrom (C + 1) scope.names []).lookup x = some c := fun x e => Option.isSome_iff_exists.mp (PySem.W.cellsFrom_some scope.names (C + 1) [] (.inl e))
  have oApart := cok.apart
  generalize cellsFrom (C + 1) scope.names [] = own at oMem oHas oApart ⊢
  have hcs : ∀ x c,(own ++ cl).lookup x = some c → (C + 1 ≤ c ∧ h₁.IsCell c none ∧ own.lookup x = some c) ∨ X.env.cells.lookup x = some c := fun x c e => by
    rcases Jqz e with z | z
    · exact .inl ⟨(oMem x c z).1,(oMem x c z).2.1,z⟩
    · exact .inr (hcl x c z.2)
  have hlt : ∀ x c,X.env.cells.lookup x = some c → c < s2.heap.objs.size := fun x c e => let ⟨o,ho⟩ := okc x c e; Heap.lt_size ho
  have OK : (Jc0 X N2 scope (own ++ cl) C s2 H2 fp).Ok := by
    refine ⟨I2.ok.mod,hS.kind,I2.ok.glob,I2.ok.blt,?_,fun x y c h1 h2 => ?_,fun x hx => ?_,fun x c hf h1 => ?_,I2.ok.hd,I2.ok.frames,.inl rfl,fun b hbf => ?_,I2.bs,
      Nat.le_trans I2.ok.bsz I2.sz,fun b o e hbf => ?_,fun b hbf hb' => ?_,I2.stack,I2.Jrn,I2.sysN⟩
    · exact szC
    · rcases hcs x c h1 with z | z
      · rcases hcs y c h2 with z' | z'
        · exact name_of_addr oApart (PySem.mem_of_lookup z.2.2) (PySem.mem_of_lookup z'.2.2)
        · exact absurd (hlt y c z') (Nat.not_lt.mpr (Nat.le_trans szC (Nat.le_trans (Nat.le_succ _) z.1)))
      · rcases hcs y c h2 with z' | z'
        · exact absurd (hlt x c z) (Nat.not_lt.mpr (Nat.le_trans szC (Nat.le_trans (Nat.le_succ _) z'.1)))
        · exact I2.ok.inj x y c z z'
    · rcases Jja (env := X.env) hx with z | z
      · obtain ⟨c,e⟩ := hcf x z
        show ∃ c,(own ++ cl).lookup x = some c
        rw [List.lookup_append]
        cases q : own.lookup x with
        | none => exact ⟨c,e⟩
        | some d => exact ⟨d,rfl⟩
      · obtain ⟨c,e⟩ := oHas x z
        exact ⟨c,by show (own ++ cl).lookup x = some c; rw [List.lookup_append,e]; rfl⟩
    · obtain ⟨d,e⟩ := oHas x (of_decide_eq_true hf)
      have h1' : (own ++ cl).lookup x = some c := h1
      rw [List.lookup_append,e] at h1'
      have e2 : d = c := Option.some.inj h1'
      rw [← e2]
      exact Nat.le_trans szC (Nat.le_trans (Nat.le_succ _) (oMem x d e).1)
    · obtain ⟨o,e⟩ := f2h b hbf
      refine ⟨(below b o e).1,fun x c h1 => ?_⟩
      rcases hcs x c h1 with z | z
      · exact fun w => absurd (Heap.lt_size e) (by rw [← w]; exact Nat.not_lt.mpr (Nat.le_trans szC (Nat.le_trans (Nat.le_succ _) z.1)))
      · exact (f2 b hbf).2.2.2.2.1 x c z
    · rcases (f2 b hbf).2.2.2.1 with z | z
      · exact I2.ok.noex b o e z
      · exact absurd (Nat.lt_of_lt_of_le (Heap.lt_size (I2.ok.bs b o e).1) z) (Nat.lt_irrefl _)
    · rcases List.mem_cons.mp (I2.Jm3 b hb') with z | z
      · exact (f2 b hbf).2.1 z
      · exact (f2 b hbf).2.2.1 z
  have fresh : ∀ a,s2.heap.objs.size ≤ a → H2 a = none := fun a ha => I2.hok.fresh ha
  have I4 : ∀ tk,Inv (Jc0 X N2 scope (own ++ cl) C s2 H2 fp) [(D,{ cls := .type "list",data := .seq ([] : List Value).toArray 0 })] (capS k caps σ) H2 { s2 with heap := h₁,toks := tk } := fun tk => by
    refine ⟨OK,rfl,I2.bare,Un.kept old,⟨_,hns₁,fun i x v e1 e2 e3 => ?_⟩,fun x c e => ?_,fresh C szC,fun x c e => ?_,fun p hp => ?_,I2.hok.kept old,?_⟩
    · obtain ⟨j,a,rfl,ha,hv⟩ := Jtj e2
      obtain ⟨y,y1,y2,y3⟩ := hS.cap j a ha
      have e1' : N2[k + j]? = some x := e1
      rw [y1] at e1'; cases e1'
      have hk : X.env.scope.names.lookup x = some .cell ∨ X.env.scope.names.lookup x = some .free := hS.free (x,.free) (PySem.mem_of_lookup y3) rfl
      obtain ⟨m',_,hl⟩ := id I2.loc
      obtain ⟨u,ru,lk⟩ := hl a x v y2 hv (hk.elim (fun z => .inr (.inl z)) fun z => .inr (.inr z))
      refine ⟨u,ru,.inr ⟨Ji9 y3,?_⟩⟩
      rcases lk with ⟨kk,_⟩ | ⟨_,c,e,z⟩
      · have kk' : X.env.scope.names.lookup x = some .local := kk
        rw [kk'] at hk
        rcases hk with z | z <;> cases z
      · obtain ⟨c',e'⟩ := hcf x y3
        have e'' := hcl x c' e'
        rw [e] at e''; cases e''
        obtain ⟨o,ho,hd⟩ := z
        refine ⟨c,?_,o,old c o ho,hd⟩
        show (own ++ cl).lookup x = some c
        rw [List.lookup_append]
        cases q : own.lookup x with
        | none => exact e'
        | some d => have := (oMem x d q).2.2; rw [y3] at this; cases this
    · rcases hcs x c e with z | z
      · exact ⟨none,z.2.1⟩
      · obtain ⟨v,o,ho,hd⟩ := I2.cell x c z
        exact ⟨v,o,old c o ho,hd⟩
    · rcases hcs x c e with z | z
      · exact fresh c (Nat.le_trans szC (Nat.le_trans (Nat.le_succ _) z.1))
      · exact I2.freeC x c z
    · have hp' : p ∈ [(D,({ cls := .type "list",data := .seq ([] : List Value).toArray 0 } : Obj))] := hp
      have e : p = (D,({ cls := .type "list",data := .seq ([] : List Value).toArray 0 } : Obj)) := by simpa using hp'
      subst e
      exact ⟨hacc,fresh D szD,hDC,fun z => by
        rcases List.mem_cons.mp (I2.Jm3 D z) with z | z
        · exact Jk6 I2.lt szD z.symm
        · exact I2.nofs szD z,fun v z => by cases z⟩
    · show (capS k caps σ).length = N2.length
      unfold capS
      rw [List.length_append,List.length_replicate,List.length_map,hS.len]
  -- the loop
  obtain ⟨hg,ht,he⟩ := hb (own ++ cl) C s2 H2 fp
  have loop : ∀ s₃ : Shared,Inv (Jc0 X N2 scope (own ++ cl) C s2 H2 fp) [(D,{ cls := .type "list",data := .seq ([] : List Value).toArray 0 })] (capS k caps σ) H2 s₃ → tn 0 s₃.heap →
      codeAny (model X.prog X.w) X.A (.compLoop (.ListComp elt [⟨tg,iter,ifs,0⟩] scope pos) 0 (.ref it) (.ref D) (compEnvC scope (own ++ cl) C X.env)) (RR (.ref D) C) s₃ := by
    intro s₃ I₃ st₃
    refine codeAny_loop rfl (fun n s' => ∃ i ys its nn H',Inv (Jc0 X N2 scope (own ++ cl) C s2 H2 fp) [(D,{ cls := .type "list",data := .seq (its : List Value).toArray nn })] (capS k caps σ) H' s' ∧ Vals ys its ∧ tn i s'.heap ∧ (∀ b ∈ fp,H' b = none) ∧ ys.length ≤ sizeLine ∧ W i n ys H') ?_ m0
      ⟨0,[],[],0,H2,I₃,.nil,st₃,fun b hbf => (f2 b hbf).1,Nat.zero_le _,w0⟩
    rintro n s5 ⟨i,ys,its,nn,H5,I5,rv,st5,fr5,hz,w5⟩
    show wpAny _ X.A ((compTurn (.ListComp elt [⟨tg,iter,ifs,0⟩] scope pos) 0 (.ref it) (.ref D) (compEnvC scope (own ++ cl) C X.env)).onRaise (fun x => do noteFrame x (compEnvC scope (own ++ cl) C X.env); theTreesLotGoes x)) _ _ s5
    refine wpAny_noted ?_
    rw [compTurn_list]
    refine wpAny_bind (wpAny_standAt (wpAny_bind ?_))
    have fpok : ∀ {H' : Hp} {o : Obj},(∀ b ∈ fp,H' b = none) → ∀ b ∈ fp,FpOk (Jc0 X N2 scope (own ++ cl) C s2 H2 fp) [(D,o)] H' b := fun {H' o} hn b hbf => by
      obtain ⟨ob,e⟩ := f2h b hbf
      refine ⟨hn b hbf,(below b ob e).1,OK.exfs b hbf,.inl hbf,(OK.exf b hbf).2,fun p hp z => ?_⟩
      have hp' : p ∈ [(D,o)] := hp
      have e' : p = (D,o) := by simpa using hp'
      subst e'
      exact (below b ob e).2 z.symm
    rcases turn i n ys H5 w5 with ⟨stop,qn⟩ | ⟨go,hz2,step⟩
    · refine thn (T.done (Jc0 X N2 scope (own ++ cl) C s2 H2 fp) rfl rfl rfl hc i _ s5 _ H5 _ I5 (fpok fr5) st5 stop) fun r s6 ⟨hr,I6⟩ => ?_
      subst hr
      refine wpAny_pure ?_
      obtain ⟨pe,pn,pne,pnf,_⟩ := I6.pin (D,{ cls := .type "list",data := .seq its.toArray nn }) (List.mem_append_right _ (List.mem_singleton.mpr rfl))
      have hD : H5 D = none := pn
      have hCn : H5 C = none := I6.free
      refine hRR D C s6 H5 ys szD szC (Ne.symm hDC) hD hCn ?_ ?_ qn
      · have un : Un (frs X.stack) fp H2 (upd H5 D (.lst ys)) s2.heap s6.heap := by
          have u := I6.base
          refine ⟨u.keep,u.slot,fun b o e n1 n2 => ?_,u.there,fun b xs e => ?_,fun b o u' e => ?_,fun b ps e => ?_,fun n => by rw [Ja5 (Nat.ne_of_lt (Nat.lt_of_lt_of_le I2.bigS szD))]; exact u.sy n⟩
          · rw [Ja5 (below b o e).2]; exact u.free b o e n1 n2
          · rw [Ja5 (Jbz (u.tups b xs e) hD)]; exact u.tups b xs e
          · rw [Ja5 (Jbz (u.frzs b o u' e) hD)]; exact u.frzs b o u' e
          · obtain ⟨more,q⟩ := u.tbls b ps e
            exact ⟨more,by rw [Ja5 (Jbz q hD)]; exact q⟩
        refine I2.call' I6.os un (fun b u e => ?_) I6.bare (fun b hbf => ⟨(f2 b hbf).2.2.2.1,(f2 b hbf).2.1,(f2 b hbf).2.2.2.2.1,(f2 b hbf).2.2.2.2.2⟩)
        by_cases hbd : b = D
        · subst hbd
          rw [Ja6] at e; cases e
          exact ⟨hz,its,nn,rv,pe⟩
        · rw [Ja5 hbd] at e
          exact (I6.hok b u e).stay (fun _ _ _ q => q) (fun c q => by rw [Ja5 (Jbz q hD)]; exact q) fun c xs q => by rw [Ja5 (Jbz q hD)]; exact q
      · obtain ⟨m,hn,_⟩ := I6.loc
        exact ⟨m,hn⟩
    · refine thn (T.item (Jc0 X N2 scope (own ++ cl) C s2 H2 fp) rfl rfl rfl hc i _ s5 _ H5 _ I5 (fpok fr5) st5 go) fun r s6 ⟨u,hr,h6⟩ => ?_
      subst hr
      refine wpAny_bind (thn h6 fun _ s7 ⟨x,H7,I7,r7,y7,st7,fr7⟩ => ?_)
      have I7' := I7.pinned (fpok fr7) (T.obj _ _ st7)
      refine wpAny_bind (wpAny_mono (hg _ s7 _ H7 x u _ I7' r7 (hlow _ _ _ _ (step x H7 y7))) (fun _ s8 ⟨σ8,H8,I8,q8,ql,qk⟩ => ?_) fun _ _ z => z.elim)
      have wk : ∀ {pl : List (Addr × Obj)} {H9 : Hp} {s9 : Shared},Inv (Jc0 X N2 scope (own ++ cl) C s2 H2 fp) pl σ8 H9 s9 → Inv (Jc0 X N2 scope (own ++ cl) C s2 H2 fp) pl (capS k caps σ) H9 s9 := fun {pl H9 s9} I9 =>
        I9.weak ql.symm fun i v e => by
          obtain ⟨j,a,rfl,_,_⟩ := Jtj e
          rw [qk (k + j) (Nat.le_add_right _ _)]; exact e
      have pinD : ∀ {pl : List (Addr × Obj)} {σ9 : St} {H9 : Hp} {s9 : Shared},Inv (Jc0 X N2 scope (own ++ cl) C s2 H2 fp) (((D,({ cls := .type "list",data := .seq its.toArray nn } : Obj)) :: []) ++ pl) σ9 H9 s9 → s9.heap.get? D = some { cls := .type "list",data := .seq its.toArray nn } ∧ H9 D = none := fun {pl σ9 H9 s9} I9 => by
        obtain ⟨e1,e2,_⟩ := I9.pin (D,_) (List.mem_append_right _ (List.mem_append_left _ (List.mem_singleton.mpr rfl)))
        exact ⟨e1,e2⟩
      have stn : ∀ {pl : List (Addr × Obj)} {σ9 : St} {H9 : Hp} {s9 : Shared},Inv (Jc0 X N2 scope (own ++ cl) C s2 H2 fp) (pl ++ Jjc fp s7.heap) σ9 H9 s9 → tn (i + 1) s9.heap ∧ ∀ b ∈ fp,H9 b = none := fun {pl σ9 H9 s9} I9 => by
        refine ⟨T.keep _ _ _ st7 fun b hbf o e => (I9.pin (b,o) (List.mem_append_right _ (List.mem_append_right _ (Jhe hbf e)))).1,fun b hbf => ?_⟩
        obtain ⟨o,e,d⟩ := T.obj _ _ st7 b hbf
        exact (I9.pin (b,o) (List.mem_append_right _ (List.mem_append_right _ (Jhe hbf e)))).2.1
      refine wpAny_bind (wpAny_mono (ht _ s8 σ8 H8 _ I8 q8) (fun ok s9 ⟨H9,I9,q9⟩ => ?_) fun _ _ z => z.elim)
      cases ok with
      | false =>
        obtain ⟨m',hm,w9⟩ := (by simpa using q9 : ∃ m',m' < n ∧ W (i + 1) m' ys H9)
        refine wpAny_pure ⟨rfl,m',hm,i + 1,ys,its,nn,H9,wk I9.Jjs,rv,(stn I9).1,(stn I9).2,hz,w9⟩
      | true =>
        have q9' : te σ8 H9 fun v H4 => ∃ m',m' < n ∧ W (i + 1) m' (ys ++ [v]) H4 := by simpa using q9
        refine wpAny_bind (wpAny_bind (wpAny_mono (he _ s9 σ8 H9 _ I9 q9') (fun y s10 ⟨v,H10,I10,r10,q10⟩ => wpAny_bind ?_) fun _ _ z => z.elim))
        obtain ⟨m',hm,w10⟩ := q10
        obtain ⟨eD,nD⟩ := pinD I10
        have hl := rv.length
        refine call_meets F.slot_list_append ⟨_,eD,rfl⟩ F.entry_list_append (F.args_list_append_2 _ _) (PySem.list_append D its.toArray nn y (by rw [List.size_toArray]; omega)) ⟨eD,?_⟩
        refine wpAny_pure (wpAny_pure ⟨rfl,m',hm,?_⟩)
        obtain ⟨n2,qD⟩ : ∃ n2,(s10.heap.update D (Obj.mapSeq fun z => z.push y)).get? D = some { cls := .type "list",data := .seq (its ++ [y]).toArray n2 } := by
          have q0 := PySem.IsL.update eD (fun z => z.push y)
          have hf : its.toArray.push y = (its ++ [y]).toArray := by simp
          rw [hf] at q0
          exact ⟨_,q0⟩
        have J0 : Inv (Jc0 X N2 scope (own ++ cl) C s2 H2 fp) (Jjc fp s7.heap) (capS k caps σ) H10 s10 := wk (I10.Jl7 fun p hp => I10.pin p (List.mem_append_right _ (List.mem_append_right _ hp)))
        have J1 : Inv (Jc0 X N2 scope (own ++ cl) C s2 H2 fp) (Jjc fp s7.heap) (capS k caps σ) H10 { s10 with heap := s10.heap.update D (Obj.mapSeq fun z => z.push y),toks := s10.toks } := by
          refine J0.turned (fun b o hne e => (Heap.get?_update_other s10.heap _ (Ne.symm hne)).trans e) nD hDC (.inr szD) (fun x c e z => ?_) fun p hp z => ?_
          · rcases hcs x c e with y | y
            · have := y.1
              rw [z] at this
              omega
            · obtain ⟨o,ho⟩ := okc x c y
              exact (below c o ho).2 z
          · have hp' : p ∈ Jjc fp s7.heap := hp
            obtain ⟨ob,e⟩ := f2h p.1 (Jno hp').1
            exact (below p.1 ob e).2 z
        have J2 : Inv (Jc0 X N2 scope (own ++ cl) C s2 H2 fp) [(D,{ cls := .type "list",data := .seq (its ++ [y]).toArray n2 })] (capS k caps σ) H10 { s10 with heap := s10.heap.update D (Obj.mapSeq fun z => z.push y),toks := s10.toks } := by
          refine J1.Jl7 fun p hp => ?_
          have e : p = (D,{ cls := .type "list",data := .seq (its ++ [y]).toArray n2 }) := List.mem_singleton.mp hp
          subst e
          exact ⟨qD,nD,hDC,fun z => by
            rcases List.mem_cons.mp (I2.Jm3 D z) with z | z
            · exact Jk6 I2.lt szD z.symm
            · exact I2.nofs szD z,fun v z => by cases z⟩
        refine ⟨i + 1,ys ++ [v],its ++ [y],_,H10,J2,rv.append (.cons r10 .nil),?_,(stn I10).2,?_,w10⟩
        · refine T.keep _ _ _ (stn I10).1 fun b hbf o e => ?_
          obtain ⟨ob,e'⟩ := f2h b hbf
          exact (Heap.get?_update_other s10.heap _ (Ne.symm (below b ob e').2)).trans e
        · rw [List.length_append,List.length_singleton]; omega
  have st1 : tn 0 h₁ := T.keep _ _ _ st2 fun b hbf o e => old b o e
  exact codeAny_compStart_list (loop _ (I4 _) st1) (T.self X.A 0 _ _ _ st1 (loop _ (I4 _) st1))

theorem Jya {elt tg iter : Expr} {ifs : List Expr} {scope : Scope} {pos : Pos} {N2 : List Str} {k : Nat} {caps : List Nat} {wi : TI} {g : TG} {tt : TT} {te : TE}
    (hc : X.calm = true) (hS : Jcw X.env.scope X.N N2 k caps scope) (hlow : Low k g) (hi : PI X tg iter wi)
    (hb : ∀ (cl : List (Str × Addr)) (C : Addr) (s : Shared) (H : Hp) (ex : List Addr),PG (Jc0 X N2 scope cl C s H ex) tg g ∧ PTs (Jc0 X N2 scope cl C s H ex) ifs tt ∧ PE (Jc0 X N2 scope cl C s H ex) elt te)
    (hs : ∀ x,foldedSetIterable iter X.env x = pure x := by intro _; rfl) : PE X (.ListComp elt [⟨tg,iter,ifs,0⟩] scope pos) (Jxk k caps wi g tt te) := by
  intro pins s σ H Q I h
  rw [eval_ListComp]
  obtain ⟨cl,hcl0,hcl,hcf⟩ := Jlt (scope := scope) (env := X.env) fun y hy e => I.ok.has y.1 (hS.free y hy e)
  refine wpAny_comprehension_free (use := none) rfl hs hcl0 hS.kind hS.loc ?_
  refine thn (hi pins s σ H _ I h) fun v s1 h1 => thn h1 fun itv s2 h2 => ?_
  obtain ⟨it,fp,tn,J,H2,e,I2,T,st2,f2,W,⟨m0,w0⟩,turn⟩ := h2
  subst e
  refine Jls (RR := fun acc C => compPost (model X.prog X.w) X.A X.xe none (EP X pins σ Q) acc C) (Qe := fun ys H => ∀ p,H p = none → Q (.ref p) (upd H p (.lst ys))) hc hS hlow hcl hcf hb I2 T st2 f2 w0 turn ?_
  intro D C s' H' ys hD hC hDC nD nC I' hn q
  obtain ⟨m,hn⟩ := hn
  refine ⟨m,hn,fun h' hsb => ⟨.ref D,_,?_,rfl,q D nD⟩⟩
  refine I'.but hsb (by rw [Ja5 hDC]; exact nC) (fun z => ?_) (Nat.le_trans I2.sz hC) (fun x c e z => ?_) fun p hp z => ?_
  · exact Jk6 I2.lt hC z.symm
  · obtain ⟨v,o,ho,_⟩ := I2.cell x c e
    exact Jk6 (Heap.lt_size ho) hC z
  · exact Jk6 (Heap.lt_size (I2.pin p hp).1) hC z

def JCk (i : Nat) (t : TE) : TS := fun D σ H => t σ H fun v H1 => D.nx (σ.set i (some v)) H1
theorem Jx2 {elt tg iter : Expr} {ifs : List Expr} {scope : Scope} {pos py spos : Pos} {N2 : List Str} {k i : Nat} {y : Str} {caps : List Nat} {wi : TI} {g : TG} {tt : TT} {te : TE}
    (hc : X.calm = true) (hN : X.N.Nodup) (hi' : X.N[i]? = some y) (hS : Jcw X.env.scope X.N N2 k caps scope) (hlow : Low k g) (hi : PI X tg iter wi)
    (hb : ∀ (cl : List (Str × Addr)) (C : Addr) (s : Shared) (H : Hp) (ex : List Addr),PG (Jc0 X N2 scope cl C s H ex) tg g ∧ PTs (Jc0 X N2 scope cl C s H ex) ifs tt ∧ PE (Jc0 X N2 scope cl C s H ex) elt te)
    (hx : X.env.scope.names.lookup y = some .local := by rfl) (hsw : swapsWith (.ListComp elt [⟨tg,iter,ifs,0⟩] scope pos) (some (.Name y py)) spos.line X.env = pure true := by rfl)
    (hs : ∀ x,foldedSetIterable iter X.env x = pure x := by intro _; rfl) : PS X (.Assign [.Name y py] (.ListComp elt [⟨tg,iter,ifs,0⟩] scope pos) spos) (JCk i (Jxk k caps wi g tt te)) := by
  intro pins s σ H D0 I h
  obtain ⟨cl,hcl0,hcl,hcf⟩ := Jlt (scope := scope) (env := X.env) fun y hy e => I.ok.has y.1 (hS.free y hy e)
  rw [exec_Assign_Name_used _ _ _ _ hsw]
  refine wpAny_bind (wpAny_standAt (wpAny_bind ?_))
  show wpAny _ X.A (do let _ ← comprehension (.ListComp elt [⟨tg,iter,ifs,0⟩] scope pos) scope X.env _ (newList []) false (eval iter X.env) (some (assign (.Name y py) X.env))) _ _ s
  refine wpAny_bind (wpAny_mono (wpAny_comprehension_free (use := some (assign (.Name y py) X.env)) (Q := fun _ s' => SP X pins D0 .next s') rfl hs hcl0 hS.kind hS.loc ?_) (fun _ s' hq => wpAny_pure (wpAny_pure hq)) fun _ _ e => e)
  refine thn (hi pins s σ H _ I h) fun v s1 h1 => thn h1 fun itv s2 h2 => ?_
  obtain ⟨it,fp,tn,J,H2,e,I2,T,st2,f2,W,⟨m0,w0⟩,turn⟩ := h2
  subst e
  refine Jls (RR := fun acc C => compPost (model X.prog X.w) X.A X.xe (some (assign (.Name y py) X.env)) (fun _ s' => SP X pins D0 .next s') acc C)
    (Qe := fun ys H => ∀ p,H p = none → D0.nx (σ.set i (some (.ref p))) (upd H p (.lst ys))) hc hS hlow hcl hcf hb I2 T st2 f2 w0 turn ?_
  intro D C s' H' ys hD hC hDC nD nC I' hn q
  obtain ⟨m,hn⟩ := hn
  show wpAny _ X.A (assign (.Name y py) X.env (.ref D)) _ _ _
  refine wpAny_assign_Name (Jm2 (v := .ref D) I' hN hi' (.inl hx) rfl (fun s'' I'' ⟨a,hsb,ha⟩ => ?_) (.inr hx))
  have hLC : C ≠ X.env.locals := fun z => Jk6 I2.lt hC z.symm
  have hcC : ∀ x c,X.env.cells.lookup x = some c → c ≠ C := fun x c e z => by
    obtain ⟨v,o,ho,_⟩ := I2.cell x c e
    exact Jk6 (Heap.lt_size ho) hC z
  have haC : C ≠ a := by
    rcases ha with z | z
    · rw [z]; exact hLC
    · exact fun e => hcC y a z e.symm
  refine ⟨m,hn.sameBut hsb haC,fun h' hsb' => ?_⟩
  refine ⟨_,_,I''.but hsb' (by rw [Ja5 hDC]; exact nC) hLC (Nat.le_trans I2.sz hC) hcC fun p hp z => ?_,q D nD⟩
  exact Jk6 (Heap.lt_size (I2.pin p hp).1) hC z
end
end L2
end
section
set_option Elab.async false
set_option maxRecDepth 10000
set_option linter.all false
namespace L2
open PySem PySem.Spec PyProof.Rows

theorem Jd1.obj {P : Program} {w : World} {H : Hp} {h : Heap} {a : Addr} {o : HO} (x : Jd1 P w H h a o) : ∃ ob,h.get? a = some ob := by
  cases o with
  | lst xs => obtain ⟨_,_,_,_,e⟩ := x; exact ⟨_,e⟩
  | tup xs => obtain ⟨_,_,_,ob,e,_⟩ := x; exact ⟨ob,e⟩
  | dK kvs => obtain ⟨_,_,_,_,o,_,_,e,_⟩ := x; exact ⟨o,e⟩
  | dT kvs => obtain ⟨_,_,_,_,o,_,_,e,_⟩ := x; exact ⟨o,e⟩
  | set S n => obtain ⟨o,_,_,_,e,_⟩ := x; exact ⟨o,e⟩
  | ins C dx fs => obtain ⟨_,_,_,e,_⟩ := x; exact ⟨_,e⟩
  | own y => exact x
  | xd fs => obtain ⟨_,⟨o,_,_,e,_⟩,_⟩ := x; exact ⟨o,e⟩
  | rng lo hi => obtain ⟨_,_,_,e⟩ := x; exact ⟨_,e⟩
  | frz ob u => obtain ⟨e,_⟩ := x; exact ⟨_,e⟩
  | tbl ps => exact ⟨_,x⟩
  | met f y => exact ⟨_,x⟩
  | ext φ => obtain ⟨_,e,_⟩ := x; exact e
section
variable {X : Cx} {pins : List (Addr × Obj)} {σ : St} {H : Hp} {s : Shared}
theorem Inv.Jsi (I : Inv X pins σ H s) {a : Addr} (h : s.heap.get? a = none) : H a = none := by
  cases q : H a with
  | none => rfl
  | some o =>
    obtain ⟨ob,e⟩ := (I.hok a o q).obj
    rw [h] at e; cases e
theorem Inv.laidN {a : Addr} {o : HO} {h' : Heap} {d' : Drawn} {t' : Nat} (I : Inv X pins σ H s) (k : ∀ b u,s.heap.get? b = some u → h'.get? b = some u) (hn : s.heap.get? a = none) (hsy : sysModules ≠ a) (new : Jd1 X.prog X.w (upd H a o) h' a o) :
    Inv X pins σ (upd H a o) { s with heap := h',drawn := d',toks := t' } := by
  have hH := I.Jsi hn
  have ne : ∀ b u,s.heap.get? b = some u → b ≠ a := fun b u e z => by rw [z,hn] at e; cases e
  refine I.step (g' := s.gens) (ch := []) (fun _ z => nomatch z) (fun b u _ _ _ e _ => k b u e) (fun b u _ _ _ e _ => ⟨u.slots,k b u e⟩) (fun b u _ e n => by rw [Ja5 (ne b u e)]; exact n) (fun b u _ e => ⟨u,k b u e⟩)
    (fun b xs e => by rw [Ja5 (Jbz e hH)]; exact e) (fun b u xs e => by rw [Ja5 (Jbz e hH)]; exact e) (fun b ps e => ⟨#[],by rw [Ja5 (Jbz e hH),e]; simp⟩) (fun m hm => ?_) (fun b u e => ?_) I.bare (fun n => by rw [Ja5 hsy]; exact n)
  · obtain ⟨ob,es,ep,e,r⟩ := hm
    exact ⟨ob,es,ep,k _ _ e,r⟩
  · by_cases hb : b = a
    · subst hb; rw [Ja6] at e; cases e; exact new
    · rw [Ja5 hb] at e
      exact (I.hok b u e).stay (fun c v _ q => k c v q) (fun c q => by rw [Ja5 (Jbz q hH)]; exact q) fun c xs q => by rw [Ja5 (Jbz q hH)]; exact q
end

def setO (P : Program) (w : World) (a : Addr) (ds : List Int) : HO := .ext fun h => SetP.SetT P w h a ds
theorem Jxo {P : Program} {w : World} {H : Hp} {h : Heap} {a : Addr} {ds : List Int} (x : SetP.SetT P w h a ds) : Jd1 P w H h a (setO P w a ds) :=
  ⟨x,(by obtain ⟨_,o,_,_,_,e,_⟩ := x; exact ⟨o,e⟩),fun h1 h2 y k => y.sameBut k⟩
section
variable {X : Cx}
theorem Jv7 (hc : X.calm = true) : Jdp X (.type "set") (fun xs H Q => ∃ p ns,xs = [.ref p] ∧ SqL X.K H p (ns.map V.int) ∧ ns.length < 1000 ∧ ∀ a,H a = none → Q (.ref a) (upd H a (setO X.prog X.w a (SetP.once ns)))) := by
  intro pins s σ H xs us Q I r h
  obtain ⟨p,ns,rfl,hq,hl,q⟩ := h
  obtain ⟨u,rfl,rx⟩ := vals1 r
  cases rx
  obtain ⟨its,rv,pl,hz⟩ := I.list hq
  have hlen := rv.length
  rw [List.length_map] at hlen
  refine SetP.Jxn (I.ok.hd hc) pl.isList (by simpa using intsAre_of rv) (by rw [List.size_toArray,← hlen]; unfold scanBound; omega) fun h' tk k T => ?_
  have hn : s.heap.get? s.heap.objs.size = none := Heap.get?_none_of_le (Nat.le_refl _)
  exact ⟨.ref s.heap.objs.size,_,I.laidN (d' := s.drawn) (t' := tk) k hn (Nat.ne_of_lt I.bigS) (Jxo T),rfl,q _ (I.hok.fresh (Nat.le_refl _))⟩
theorem Jk4 (hc : X.calm = true) : Jdp X (.builtin "sorted") (fun xs H Q => ∃ (a : Addr) (ds : List Int),xs = [.ref a] ∧ H a = some (setO X.prog X.w a ds) ∧ ds.length < 64 ∧
    ∀ (l : Addr) (ns : List Int),H l = none → ns.Perm ds → ns.Pairwise (· ≤ ·) → Q (.ref l) (upd H l (.lst (ns.map V.int)))) := by
  intro pins s σ H xs us Q I r h
  obtain ⟨a,ds,rfl,hH,hl,q⟩ := h
  obtain ⟨u,rfl,rx⟩ := vals1 r
  cases rx
  obtain ⟨T,_,_⟩ := (show Jd1 X.prog X.w H s.heap a (setO X.prog X.w a ds) from I.hok a _ hH)
  refine SetP.Juh (I.ok.hd hc) T hl fun h' d' tk l vs ns n k hb e hi hp hs => ?_
  have hn : s.heap.get? l = none := by
    cases q : s.heap.get? l with
    | none => rfl
    | some o => exact absurd (hb l o q) (Nat.lt_irrefl _)
  have hsy : sysModules ≠ l := by
    obtain ⟨o,_,_,e,_⟩ := I.ok.mod.glob
    exact Nat.ne_of_lt (Nat.lt_trans (by decide : (1 : Nat) < 3) (hb _ _ (I.bk _ _ e)))
  have hlen : ns.length < 64 := by rw [hp.length_eq]; exact hl
  refine ⟨.ref l,_,I.laidN (d' := d') (t' := tk) (o := .lst (ns.map V.int)) k hn hsy ⟨?_,vs.toList,n,Jjw hi,by simpa using e⟩,rfl,q l ns (I.Jsi hn) hp hs⟩
  rw [List.length_map]
  exact Nat.le_of_lt (Jm7 (by omega))

theorem Jon {prog : Program} {w : World} {A : Around} {bs : List Bool} {its : List Value} (r : Vals (bs.map V.bl) its) : TruthOf prog w A (fun i v => its.toArray[i]? = some v) (fun i => bs.getD i false) := by
  intro i v s Q E hP h
  rw [List.getElem?_toArray] at hP
  have hlen := r.length
  rw [List.length_map] at hlen
  have hi : i < bs.length := by rw [hlen]; exact (List.getElem?_eq_some_iff.mp hP).1
  obtain ⟨u,e,ru⟩ := r.get (i := i) (x := .bl bs[i]) (by rw [List.getElem?_map,List.getElem?_eq_getElem hi]; rfl)
  rw [e] at hP; cases hP
  have ru' : v = Value.bool bs[i] := ru
  subst ru'
  have e2 : bs.getD i false = bs[i] := by rw [List.getD_eq_getElem?_getD,List.getElem?_eq_getElem hi]; rfl
  have h : Q (bs.getD i false) s := h
  rw [e2] at h
  exact wpAny_truthy_bool h
theorem all_range (bs : List Bool) : (List.range bs.length).all (fun i => bs.getD i false) = bs.all id := by
  rw [Bool.eq_iff_iff,List.all_eq_true,List.all_eq_true]
  constructor
  · intro h b hb
    obtain ⟨i,hi⟩ := List.mem_iff_getElem?.mp hb
    have q := h i (List.mem_range.mpr (List.getElem?_eq_some_iff.mp hi).1)
    rw [List.getD_eq_getElem?_getD,hi] at q
    exact q
  · intro h i hi
    have hi' := List.mem_range.mp hi
    rw [List.getD_eq_getElem?_getD,List.getElem?_eq_getElem hi']
    exact h _ (List.getElem_mem hi')
theorem Jqj (hc : X.calm = true) : Jdp X (.builtin "all") (fun xs H Q => ∃ (p : Addr) (bs : List Bool),xs = [.ref p] ∧ SqL X.K H p (bs.map V.bl) ∧ Q (.bl (bs.all id)) H) := by
  intro pins s σ H xs us Q I r h
  obtain ⟨p,bs,rfl,hq,q⟩ := h
  obtain ⟨u,rfl,rx⟩ := vals1 r
  cases rx
  obtain ⟨its,rv,pl,hz⟩ := I.list hq
  have hlen := rv.length
  rw [List.length_map] at hlen
  have hl := pl.isList
  have hlt : p < s.heap.objs.size := by obtain ⟨o,ho,_⟩ := hl; exact Heap.lt_size ho
  refine call_all_walk (wpAny_pyIter_list hl ?_)
  refine ⟨s.heap.objs.size,[s.heap.objs.size,p],[s.heap.objs.size],its.toArray.size,_,_,fun i => bs.getD i false,rfl,Walks.list (by simpa using I.ok.hd hc) s.heap.objs.size p (Nat.ne_of_lt hlt) its.toArray,⟨⟨_,Heap.get?_push_size _ rfl,rfl,rfl⟩,hl.push _⟩,Jon rv,fun h' tk k => ?_⟩
  refine ⟨.bl (bs.all id),H,I.kept (h' := h') (t' := tk) fun b o e => k b o (fun z => ?_) (Heap.get?_push_of_some _ e),?_,q⟩
  · exact absurd (List.mem_singleton.mp z) (Nat.ne_of_lt (Heap.lt_size e))
  · show Value.bool _ = Value.bool _
    rw [List.size_toArray,← hlen,all_range]

theorem Jb8 {K : PySem.W.Frag} {a b : String} {r : Bool} (h : (if (Value.type a == Value.type b) = true then some true else if PySem.W.kitMeta b = true then (PySem.fastBuiltinMro a).map (·.contains (.type b)) else none) = some r) : PySem.W.kitOne K (.type a) (.type b) = some r := h
theorem Jpc : Jdp X (.builtin "isinstance") (fun xs H Q => ∃ (x : V) (T : String) (t : Value) (b : Bool),xs = [x,.ty T] ∧ TyOf X.K H x t ∧ PySem.W.kitOne X.K t (.type T) = some b ∧ Q (.bl b) H) := by
  intro pins s σ H xs us Q I r h
  obtain ⟨x,T,t,b,rfl,ty,e,q⟩ := h
  obtain ⟨u,w',rfl,rx,rt⟩ := vals2 r
  cases (show w' = Value.type T from rt)
  exact Jsy I rx ty e fun tk => ⟨.bl b,H,I.tok tk,rfl,q⟩

theorem Ju1 : OpR X (compareOp .Is) (fun x y H Q => ∃ (c d : Bool),x = .bl c ∧ y = .bl d ∧ Q (.bl (decide (c = d))) H) := by
  intro pins s σ H x y v u Q I rx ry h
  obtain ⟨c,d,rfl,rfl,q⟩ := h
  cases (show v = Value.bool c from rx)
  cases (show u = Value.bool d from ry)
  refine is_bool ⟨.bl (decide (c = d)),H,I,?_,q⟩
  show Value.bool _ = Value.bool _
  cases c <;> cases d <;> rfl

theorem Jpb : Jdp X (.type "range") (fun xs H Q => ∃ (n : Int),xs = [.int n] ∧ ∀ p,H p = none → Q (.ref p) (upd H p (.rng 0 n))) := by
  intro pins s σ H xs us Q I r h
  obtain ⟨n,rfl,q⟩ := h
  obtain ⟨u,rfl,rx⟩ := vals1 r
  obtain ⟨t,rfl⟩ := (show ∃ t,u = Value.int n t from rx)
  exact call_range_1 ⟨.ref s.heap.objs.size,_,I.laid (o := .rng 0 n) (fun _ _ e => Heap.get?_push_of_some _ e) (Nat.le_refl _) ⟨_,_,_,Heap.get?_push_size _ rfl⟩,rfl,q _ (I.hok.fresh (Nat.le_refl _))⟩
theorem Jpa : Jdp X (.type "range") (fun xs H Q => ∃ (a b : Int),xs = [.int a,.int b] ∧ ∀ p,H p = none → Q (.ref p) (upd H p (.rng a b))) := by
  intro pins s σ H xs us Q I r h
  obtain ⟨a,b,rfl,q⟩ := h
  obtain ⟨u,w',rfl,rx,ry⟩ := vals2 r
  obtain ⟨t,rfl⟩ := (show ∃ t,u = Value.int a t from rx)
  obtain ⟨t',rfl⟩ := (show ∃ t,w' = Value.int b t from ry)
  exact call_range_2 ⟨.ref s.heap.objs.size,_,I.laid (o := .rng a b) (fun _ _ e => Heap.get?_push_of_some _ e) (Nat.le_refl _) ⟨_,_,_,Heap.get?_push_size _ rfl⟩,rfl,q _ (I.hok.fresh (Nat.le_refl _))⟩
def upTo (lo : Int) (n : Nat) : List Int := (List.range n).map fun (i : Nat) => lo + i
theorem Jk5 (hc : X.calm = true) : Jdp X (.type "list") (fun xs H Q => ∃ (r : Addr) (lo hi : Int),xs = [.ref r] ∧ H r = some (.rng lo hi) ∧ -(2 ^ 62) ≤ lo ∧ lo < 2 ^ 62 ∧ -(2 ^ 62) ≤ hi ∧ hi < 2 ^ 62 ∧ (hi - lo).toNat ≤ 1000 ∧
    ∀ l,H l = none → Q (.ref l) (upd H l (.lst ((upTo lo (hi - lo).toNat).map V.int)))) := by
  intro pins s σ H xs us Q I rr h
  obtain ⟨r,lo,hi,rfl,hH,h1,h2,h3,h4,h5,q⟩ := h
  obtain ⟨u,rfl,rx⟩ := vals1 rr
  cases rx
  obtain ⟨t,u,v,e⟩ := (show Jd1 X.prog X.w H s.heap r (.rng lo hi) from I.hok r _ hH)
  have hsz : Builtin.Range.rangeSize lo hi 1 = (((hi - lo).toNat : Nat) : Int) := by rw [rangeSize_one]; split <;> omega
  refine call_list_range (a := lo) (b := hi) (c := 1) (I.ok.hd hc) e (small_one h1 h2 h3 h4) hsz (by omega) fun h' tk acc c k eS hacc => ?_
  refine ⟨.ref s.heap.objs.size,_,I.laid (o := .lst ((upTo lo (hi - lo).toNat).map V.int)) (t' := tk) k (Nat.le_refl _) ⟨?_,acc.toList,c,?_,by simpa using eS⟩,rfl,q _ (I.hok.fresh (Nat.le_refl _))⟩
  · unfold upTo
    rw [List.length_map,List.length_map,List.length_range]
    exact Nat.le_of_lt (Jm7 h5)
  · have gen : ∀ (l : List Value) (j : Nat),(∀ (i : Nat) (v : Value),l[i]? = some v → ∃ t,v = Value.int (lo + ((i + j : Nat) : Int)) t) → Vals (((List.range' j l.length).map fun (i : Nat) => lo + i).map V.int) l := by
      intro l
      induction l with
      | nil => intro j _; exact .nil
      | cons x r ih =>
        intro j hx
        obtain ⟨t,e⟩ := hx 0 x rfl
        subst e
        rw [List.length_cons,List.range'_succ]
        refine .cons ⟨t,by simp⟩ (ih (j + 1) fun i v hv => ?_)
        obtain ⟨t',e'⟩ := hx (i + 1) v (by simpa using hv)
        exact ⟨t',by rw [e',show i + 1 + j = i + (j + 1) by omega]⟩
    have q2 := gen acc.toList 0 fun i v hv => by
      obtain ⟨t',e'⟩ := hacc.2 i v (by simpa using hv)
      exact ⟨t',by rw [e']; simp⟩
    have el : acc.toList.length = (hi - lo).toNat := by simpa using hacc.1
    rw [el,← List.range_eq_range'] at q2
    exact q2

theorem Inv.big {pins : List (Addr × Obj)} {σ : St} {H : Hp} {s : Shared} (I : Inv X pins σ H s) : sysModules < s.heap.objs.size := by
  obtain ⟨o,_,_,e,_⟩ := I.ok.mod.glob
  exact Nat.lt_trans (by decide : (1 : Nat) < 3) (Heap.lt_size (I.bk _ _ e))
end
end L2
end
section
set_option Elab.async false
set_option maxRecDepth 10000
set_option linter.all false
namespace L2
open PySem PySem.Spec PyProof.Rows

mutual
inductive Tr (N : Addr → Prop) (H : Hp) : V → PyData → Prop
  | non : Tr N H .non .none
  | bl (b : Bool) : Tr N H (.bl b) (.bool b)
  | int (i : Int) : Tr N H (.int i) (.int i)
  | str (x : Str) : Tr N H (.str x) (.str x)
  | lst {a : Addr} {xs : List V} {ds : List PyData} : N a → H a = some (.lst xs) → Jbp N H xs ds → Tr N H (.ref a) (.list ds)
  | tup {a : Addr} {xs : List V} {ds : List PyData} : N a → H a = some (.tup xs) → Jbp N H xs ds → Tr N H (.ref a) (.tuple ds)
  | dct {a : Addr} : N a → H a = some (.dK []) → Tr N H (.ref a) (.dict [])
inductive Jbp (N : Addr → Prop) (H : Hp) : List V → List PyData → Prop
  | nil : Jbp N H [] []
  | cons {x : V} {d : PyData} {xs : List V} {ds : List PyData} : Tr N H x d → Jbp N H xs ds → Jbp N H (x :: xs) (d :: ds)
end

section
variable {N N' : Addr → Prop} {H H' : Hp}
theorem Jbp.length : ∀ {xs : List V} {ds : List PyData},Jbp N H xs ds → xs.length = ds.length
  | _,_,.nil => rfl
  | _,_,.cons _ t => by rw [List.length_cons,List.length_cons,Jbp.length t]
theorem Jbp.append : ∀ {xs ys : List V} {ds es : List PyData},Jbp N H xs ds → Jbp N H ys es → Jbp N H (xs ++ ys) (ds ++ es)
  | _,_,_,_,.nil,t => t
  | _,_,_,_,.cons r s,t => .cons r (Jbp.append s t)
theorem Jbp.take : ∀ {xs : List V} {ds : List PyData} (n : Nat),Jbp N H xs ds → Jbp N H (xs.take n) (ds.take n)
  | _,_,0,_ => .nil
  | _,_,_ + 1,.nil => .nil
  | _,_,n + 1,.cons r t => .cons r (Jbp.take n t)
theorem Jbp.drop : ∀ {xs : List V} {ds : List PyData} (n : Nat),Jbp N H xs ds → Jbp N H (xs.drop n) (ds.drop n)
  | _,_,0,r => r
  | _,_,_ + 1,.nil => .nil
  | _,_,n + 1,.cons _ t => Jbp.drop n t
theorem Jbp.get : ∀ {xs : List V} {ds : List PyData} {i : Nat} {x : V},Jbp N H xs ds → xs[i]? = some x → ∃ d,ds[i]? = some d ∧ Tr N H x d
  | _,_,_,_,.nil,e => by simp at e
  | _,_,0,_,.cons r _,e => by simp at e; subst e; exact ⟨_,rfl,r⟩
  | _,_,i + 1,x,.cons _ t,e => by
    obtain ⟨d,h1,h2⟩ := Jbp.get (i := i) (x := x) t (by simpa using e)
    exact ⟨d,by simpa using h1,h2⟩
theorem Jbp.getD : ∀ {xs : List V} {ds : List PyData} {i : Nat} {d : PyData},Jbp N H xs ds → ds[i]? = some d → ∃ x,xs[i]? = some x ∧ Tr N H x d
  | _,_,_,_,.nil,e => by simp at e
  | _,_,0,_,.cons r _,e => by simp at e; subst e; exact ⟨_,rfl,r⟩
  | _,_,i + 1,d,.cons _ t,e => by
    obtain ⟨x,h1,h2⟩ := Jbp.getD (i := i) (d := d) t (by simpa using e)
    exact ⟨x,by simpa using h1,h2⟩
mutual
theorem Tr.keep (e : ∀ b o,N b → H b = some o → H' b = some o) : ∀ {v : V} {d : PyData},Tr N H v d → Tr N H' v d
  | _,_,.non => .non
  | _,_,.bl b => .bl b
  | _,_,.int i => .int i
  | _,_,.str x => .str x
  | _,_,.lst n h t => .lst n (e _ _ n h) (Jbp.keep e t)
  | _,_,.tup n h t => .tup n (e _ _ n h) (Jbp.keep e t)
  | _,_,.dct n h => .dct n (e _ _ n h)
theorem Jbp.keep (e : ∀ b o,N b → H b = some o → H' b = some o) : ∀ {xs : List V} {ds : List PyData},Jbp N H xs ds → Jbp N H' xs ds
  | _,_,.nil => .nil
  | _,_,.cons r t => .cons (Tr.keep e r) (Jbp.keep e t)
end
theorem Tr.same (e : Same H H') {v : V} {d : PyData} (t : Tr N H v d) : Tr N H' v d := t.keep fun b o _ h => e b o h
theorem Jbp.same (e : Same H H') {xs : List V} {ds : List PyData} (t : Jbp N H xs ds) : Jbp N H' xs ds := t.keep fun b o _ h => e b o h
end

section
variable {N : Addr → Prop} {P : Program} {w : World} {H : Hp} {h : Heap}
mutual
theorem Tr.reads (ok : HOk P w H h) (hs : H sysModules = none) : ∀ {v : V} {d : PyData},Tr N H v d → ∀ u,RelV v u → ∃ as,Reads h u d as ∧ sysModules ∉ as
  | _,_,.non,u,r => ⟨[],by cases (show u = Value.none from r); exact .none,by simp⟩
  | _,_,.bl b,u,r => ⟨[],by cases (show u = Value.bool b from r); exact .bool b,by simp⟩
  | _,_,.int i,u,r => by obtain ⟨t,rfl⟩ := (show ∃ t,u = Value.int i t from r); exact ⟨[],.int i t,by simp⟩
  | _,_,.str x,u,r => by obtain ⟨t,rfl⟩ := (show ∃ t,u = Value.str x t from r); exact ⟨[],.str x t,by simp⟩
  | _,_,.lst (a := a) (xs := xs) (ds := ds) _ hH t,u,r => by
    cases (show u = Value.ref a from r)
    obtain ⟨_,its,n,rv,e⟩ := (show Jd1 P w H h a (.lst xs) from ok a _ hH)
    obtain ⟨as,ra,na⟩ := Jbp.reads ok hs t its rv
    refine ⟨a :: as,.list e rfl rfl (by simpa using ra),fun z => ?_⟩
    rcases List.mem_cons.mp z with z | z
    · rw [z] at hs; rw [hs] at hH; cases hH
    · exact na z
  | _,_,.tup (a := a) (xs := xs) (ds := ds) _ hH t,u,r => by
    cases (show u = Value.ref a from r)
    obtain ⟨_,its,rv,ob,e,c,n,d⟩ := (show Jd1 P w H h a (.tup xs) from ok a _ hH)
    obtain ⟨as,ra,na⟩ := Jbp.reads ok hs t its rv
    exact ⟨as,.tuple e c d (by simpa using ra),na⟩
  | _,_,.dct (a := a) _ hH,u,r => by
    cases (show u = Value.ref a from r)
    obtain ⟨_,y,vs,kv,o,es,ep,e,ex,d,el⟩ := (show Jd1 P w H h a (.dK []) from ok a _ hH)
    cases kv
    have e0 : es.toList = [] := by
      have q : Pairs (Jo5 P w) es.toList [] := el.2.1
      generalize es.toList = l at q
      cases q
      rfl
    refine ⟨[a],.dict (as := []) (bs := []) e ex.1 d (by rw [e0]; exact .nil) (by rw [e0]; exact .nil),fun z => ?_⟩
    have z' := List.mem_singleton.mp z
    rw [← z'] at y
    simp at y
theorem Jbp.reads (ok : HOk P w H h) (hs : H sysModules = none) : ∀ {xs : List V} {ds : List PyData},Jbp N H xs ds → ∀ us,Vals xs us → ∃ as,ReadsAll h us ds as ∧ sysModules ∉ as
  | _,_,.nil,us,r => by cases r; exact ⟨[],.nil,by simp⟩
  | _,_,.cons t ts,us,r => by
    cases r with
    | cons rx rr =>
      obtain ⟨as,ra,na⟩ := Tr.reads ok hs t _ rx
      obtain ⟨bs,rb,nb⟩ := Jbp.reads ok hs ts _ rr
      exact ⟨as ++ bs,.cons ra rb,fun z => (List.mem_append.mp z).elim na nb⟩
end
end

section
variable {X : Cx}
theorem JAz {k : Nat} (hr : Room k X.A) : OpR X (compareOp .Eq) (fun x y H Q => ∃ (N N' : Addr → Prop) (d e : PyData),Tr N H x d ∧ Tr N' H y e ∧ SeqAt.shaped d = true ∧ SeqAt.shaped e = true ∧ Q (.bl (PyData.eqv d e)) H) := by
  intro pins s σ H x y v u Q I rx ry h
  obtain ⟨N,N',d,e,t1,t2,s1,s2,q⟩ := h
  obtain ⟨as,ra,_⟩ := t1.reads I.hok I.sysN v rx
  obtain ⟨bs,rb,_⟩ := t2.reads I.hok I.sysN u ry
  exact SeqAt.compareEq_shaped ra rb s1 s2 hr.units ⟨.bl _,H,I,rfl,q⟩
theorem JAt {k : Nat} (hr : Room k X.A) : OpR X (compareOp .NotEq) (fun x y H Q => ∃ (N N' : Addr → Prop) (d e : PyData),Tr N H x d ∧ Tr N' H y e ∧ SeqAt.shaped d = true ∧ SeqAt.shaped e = true ∧ Q (.bl (!PyData.eqv d e)) H) := by
  intro pins s σ H x y v u Q I rx ry h
  obtain ⟨N,N',d,e,t1,t2,s1,s2,q⟩ := h
  obtain ⟨as,ra,_⟩ := t1.reads I.hok I.sysN v rx
  obtain ⟨bs,rb,_⟩ := t2.reads I.hok I.sysN u ry
  exact SeqAt.compareNe_shaped ra rb s1 s2 hr.units ⟨.bl _,H,I,rfl,q⟩
end
end L2
end
section
set_option Elab.async false
set_option maxRecDepth 10000
set_option linter.all false
namespace HT
open PySem PySem.Spec PyProof.Rows
section
variable {prog : Program} {w : World} {A : Around} {E : Value → Shared → Prop} {s : Shared}
theorem Jv6 {t b : Addr} {ws : List Value} {Q : Value → Shared → Prop} (ht : IsTup s.heap t ([] : List Value).toArray) (hb : IsTup s.heap b ws.toArray) (h : Q (.ref b) s) : wpAny (model prog w) A (binaryOp .Add (.ref t) (.ref b)) Q E s := by
  obtain ⟨⟨c1,d1,x1,sl1⟩,ho,hc,n,hd⟩ := id ht
  obtain ⟨⟨c2,d2,x2,sl2⟩,ho2,hc2,n2,hd2⟩ := id hb
  simp only at hc hd hc2 hd2
  subst hc hd hc2 hd2
  exact concat_meets ⟨_,ho,rfl⟩ ⟨_,ho2,rfl⟩ noFill_tuple_add seq_tuple_add PySem.F.slot_tuple_add PySem.F.entry_tuple_add (PySem.F.args_tuple_add_2 _ _) (tuple_addW0 t b _ ws.toArray n n2 d1 d2 sl1 sl2 (by simp)) ⟨ho,ho2,h⟩
theorem Joo {t sl : Addr} {items : Array Value} {vl vu : Value} {lo hi : Option Int} {Q : Value → Shared → Prop} (ht : IsTup s.heap t items) (hs : s.heap.IsSliceOf sl vl vu .none) (pl : IsPart vl lo) (pu : IsPart vu hi)
    (hw : sIx items.size 0 lo = 0 ∧ sIx items.size items.size hi = items.size) (h : Q (.ref t) s) : wpAny (model prog w) A (getItem (.ref t) (.ref sl)) Q E s := by
  obtain ⟨os,hos,hcs,hds⟩ := id hs
  have hTs : s.TypeIs (.ref sl) "slice" := ⟨os,hos,hcs⟩
  unfold getItem
  try with_reducible refine wpAny_holding ?_
  first | refine wpAny_bind (wpAny_pure ?_) | skip
  refine wpAny_bind (wpAny_sequenceKey ht.typeIs (by decide) ?_)
  refine wpAny_bind (wpAny_callSpecial?_slot (name := Str.ofString "__getitem__") ht.typeIs PyProof.Rows.slot_tuple_getitem (wpAny_call_entry PyProof.Rows.slot_tuple_getitem ht.typeIs entry_tuple_getitem ?_ (args_tuple_getitem _ _)))
  show wpAny _ _ (Builtin.Tuple.tupleItemsOf (.ref t) >>= _) _ _ s
  refine wpAny_bind (tupleItemsOf_ ht (wpAny_bind (wpAny_typeOf hTs ?_)))
  rw [if_pos (by decide)]
  refine wpAny_bind (Jgm hs pl pu ?_)
  have yes : (((sIx items.size 0 lo : Nat) : Int) == 0 && (1 : Int) == 1 && (sIx items.size items.size hi - sIx items.size 0 lo) == items.size) = true := by
    rw [hw.1,hw.2]; simp
  show wpAny _ _ (if (((sIx items.size 0 lo : Nat) : Int) == 0 && (1 : Int) == 1 && (sIx items.size items.size hi - sIx items.size 0 lo) == items.size) = true then _ else _) _ _ s
  rw [if_pos yes]
  unfold Builtin.Tuple.tupleIsExact
  refine wpAny_bind (wpAny_bind (wpAny_typeOf ht.typeIs (wpAny_pure ?_)))
  rw [if_pos (by decide)]
  exact wpAny_bind (wpAny_rule (wpAny_pure ⟨_,rfl,wpAny_pure h⟩))
end
end HT

namespace L2
open PySem PySem.Spec PyProof.Rows
theorem Jbt {H : Hp} {p : Addr} (h : H p = none) (o : HO) : Same H (upd H p o) := fun b u q => by rw [Ja5 (Jbz q h)]; exact q
theorem Jq7 (xs : List V) (lo hi : Option Int) (h : HT.sIx xs.length 0 lo = 0 ∧ HT.sIx xs.length xs.length hi = xs.length) : cutV xs lo hi = xs := by
  unfold cutV
  rw [h.1,h.2,List.drop_zero,Nat.sub_zero,List.take_length]
section
variable {X : Cx}
theorem Jyg : OpR X (binaryOp .Add) (fun x y H Q => ∃ (a b : Addr) (xs ys : List V),x = .ref a ∧ y = .ref b ∧ H a = some (.tup xs) ∧ H b = some (.tup ys) ∧ xs.length + ys.length ≤ sizeLine ∧ ∀ p H',Same H H' → H' p = some (.tup (xs ++ ys)) → Q (.ref p) H') := by
  intro pins s σ H x y v u Q I rx ry h
  obtain ⟨a,b,xs,ys,rfl,rfl,ha,hb,hz,q⟩ := h
  by_cases hx : xs = []
  · subst hx
    cases rx
    cases ry
    obtain ⟨its,r1,p1,_⟩ := I.tuple (SqT.of ha)
    obtain ⟨its2,r2,p2,_⟩ := I.tuple (SqT.of hb)
    cases r1
    exact HT.Jv6 p1 p2 ⟨.ref b,H,I,rfl,q b H (Same.refl H) hb⟩
  · refine Jyf pins s σ H _ _ v u Q I rx ry ⟨a,b,xs,ys,rfl,rfl,SqT.of ha,SqT.of hb,hx,hz,fun z => ?_,fun _ p hp => q p _ (Jbt hp _) Ja6⟩
    subst z
    exact q a H (Same.refl H) (by rw [List.append_nil]; exact ha)
theorem Jxl : SlR X (fun x lo hi H Q => ∃ (a : Addr) (xs : List V),x = .ref a ∧ H a = some (.tup xs) ∧ ∀ p H',Same H H' → H' p = some (.tup (cutV xs lo hi)) → Q (.ref p) H') := by
  intro pins s σ H x v vl vu lo hi sl Q I rx hs pl pu h
  obtain ⟨a,xs,rfl,ha,q⟩ := h
  by_cases hw : HT.sIx xs.length 0 lo = 0 ∧ HT.sIx xs.length xs.length hi = xs.length
  · cases rx
    obtain ⟨its,r,ht,hz⟩ := I.tuple (SqT.of ha)
    have hlen : its.toArray.size = xs.length := by rw [List.size_toArray]; exact r.length.symm
    refine ⟨"tuple",_,PyProof.Rows.slot_tuple_getitem.lookup,ht.typeIs,?_⟩
    exact HT.Joo ht hs pl pu (by rw [hlen]; exact hw) ⟨.ref a,H,I,rfl,q a H (Same.refl H) (by rw [Jq7 xs lo hi hw]; exact ha)⟩
  · exact Jzz pins s σ H _ v vl vu lo hi sl Q I rx hs pl pu ⟨a,xs,rfl,SqT.of ha,hw,fun p hp => q p _ (Jbt hp _) Ja6⟩
theorem Ju2 {d : Addr} {D : List (PyData × PyData)} (hT : ∀ h,X.K.In h → IntTab X.prog X.w h d D) : OpR X (compareOp .In) (fun x y H Q => ∃ (i : Int),x = .int i ∧ y = .ref d ∧ Q (.bl (lookup (.int i) D).isSome) H) := by
  intro pins s σ H x y v u Q I rx ry h
  obtain ⟨i,rfl,rfl,q⟩ := h
  obtain ⟨t,rfl⟩ := (show ∃ t,v = Value.int i t from rx)
  cases ry
  exact in_intTab (hT _ I.kIn) ⟨.bl _,H,I.tok _,rfl,q⟩
theorem tab3 {P : Program} {w : World} {K : PySem.W.Frag} {d : Addr} {ep : Nat} {h1 h2 h3 k1 k2 k3 v1 v2 v3 : Int} {t1 t2 t3 u1 u2 u3 : Tok} (hd : (d == sysModules) = false)
    (l : K.lookup d = some { cls := .type "dict",data := .dict #[⟨h1,.int k1 t1,.int v1 u1⟩,⟨h2,.int k2 t2,.int v2 u2⟩,⟨h3,.int k3 t3,.int v3 u3⟩] ep })
    (e1 : h1 = hashInt k1) (e2 : h2 = hashInt k2) (e3 : h3 = hashInt k3) (nd : [k1,k2,k3].Nodup) : ∀ h,K.In h → IntTab P w h d [(.int k1,.int v1),(.int k2,.int v2),(.int k3,.int v3)] := by
  intro h kin
  refine ⟨hd,[(k1,.int v1 u1),(k2,.int v2 u2),(k3,.int v3 u3)],⟨_,_,ep,kin _ _ l,⟨rfl,rfl,rfl⟩,rfl,?_,?_,nd⟩,?_⟩
  · intro e he
    simp only [List.mem_toArray,List.mem_cons,List.not_mem_nil,or_false] at he
    rcases he with z | z | z
    · subst z; exact ⟨k1,intKind_is P w k1 t1,e1⟩
    · subst z; exact ⟨k2,intKind_is P w k2 t2,e2⟩
    · subst z; exact ⟨k3,intKind_is P w k3 t3,e3⟩
  · exact .cons (intKind_is P w k1 t1) rfl (.cons (intKind_is P w k2 t2) rfl (.cons (intKind_is P w k3 t3) rfl .nil))
  · exact .cons (.int v1 u1) (.cons (.int v2 u2) (.cons (.int v3 u3) .nil))
end
end L2
end
section
set_option Elab.async false
set_option maxRecDepth 10000
set_option linter.all false
namespace L2
open PySem PySem.Spec PyProof.Rows

def Cal (P : Program) (w : World) (K : PySem.W.Frag) (mg : Str → Option Value) (base : Heap) (x : Str) (k : Nat) (ps : List Str) (sp : Sp) : Prop :=
  ∃ f fd,FnOk P w K mg base CX0 k f fd ps sp ∧ Binds K fd ps [] ∧ PySem.W.keepIn K (.ref f) = true ∧ mg x = some (.ref f)
section
variable {X : Cx}
theorem Jju {x : Str} {k k' : Nat} {ps : List Str} {sp : Sp} {e : Expr} {es : List Expr} {t : TA} {p pos : Pos} (c : Cal X.prog X.w X.K X.mg X.base x k ps sp) (hr : Room k' X.A) (hk : k ≤ k') (hg : Gl X x) (ha : PA X (e :: es) t)
    (hdb : (x == ("__debug__" : Str)) = false := by decide) (he : starEach (e :: es) X.env = (false,eval e X.env) :: starEach es X.env := by rfl) (hpl : (backTo pos (starEach es X.env)).any (·.1) = false := by rfl) :
    PE X (.Call (.Name x p) (e :: es) [] pos) (Jzy sp [] E0 t) := by
  obtain ⟨f,fd,F,b,kp,m⟩ := c
  exact Jyb (F.mono hk) hr hg m kp b .nil JC3 ha hdb he hpl

theorem Jp0 : OpR X (binaryOp .FloorDiv) (rI (fun _ j => 0 < j ∧ j < 2 ^ 64) fun i j => .int (i / j)) := opI fun i j _ _ _ _ _ hc q => by
  rw [← Int.fdiv_eq_ediv_of_nonneg _ (Int.le_of_lt hc.1)] at q
  refine floordiv_int (Int.ne_of_gt hc.1) q (.inl (PyProof.noPylong_of_log2 ?_))
  have h1 : j.natAbs < 2 ^ 64 := by omega
  have h2 : j.natAbs ≠ 0 := by omega
  exact Nat.lt_trans ((Nat.log2_lt h2).mpr h1) (by decide)
end

theorem Jdy : bootBuiltins "len" = some (.builtin "len") := by decide +kernel
theorem Ja8 : bootBuiltins "isinstance" = some (.builtin "isinstance") := by decide +kernel
theorem Jw3 : bootBuiltins "all" = some (.builtin "all") := by decide +kernel
theorem Jtp : bootBuiltins "sorted" = some (.builtin "sorted") := by decide +kernel
theorem JBw : bootBuiltins "min" = some (.builtin "min") := by decide +kernel
theorem Jw2 : bootBuiltins "max" = some (.builtin "max") := by decide +kernel
theorem Jw4 : bootBuiltins "abs" = some (.builtin "abs") := by decide +kernel
theorem JBv : bootBuiltins "set" = some (.type "set") := by decide +kernel
theorem Ji4 : bootBuiltins "list" = some (.type "list") := by decide +kernel
theorem Jek : bootBuiltins "tuple" = some (.type "tuple") := by decide +kernel
theorem Jv9 : bootBuiltins "range" = some (.type "range") := by decide +kernel
theorem Jtq : bootBuiltins "int" = some (.type "int") := by decide +kernel
theorem Jtr : bootBuiltins "bool" = some (.type "bool") := by decide +kernel
theorem JBu : bootBuiltins "str" = some (.type "str") := by decide +kernel
def Jmv : List Str := ["len","isinstance","all","sorted","min","max","abs","repr","set","list","tuple","range","int","bool","str"]
def Blt (mg : Str → Option Value) : Prop := ∀ x ∈ Jmv,mg x = none
theorem Blt.is {mg : Str → Option Value} (b : Blt mg) (x : Str) (h : Jmv.contains x = true := by decide +kernel) : mg x = none := b x (List.contains_iff_mem.mp h)

def tyName : PyData → String
  | .none => "NoneType"
  | .bool _ => "bool"
  | .int _ => "int"
  | .str _ => "str"
  | .list _ => "list"
  | .tuple _ => "tuple"
  | .dict _ => "dict"
theorem Tr.ty {N : Addr → Prop} {K : PySem.W.Frag} {H : Hp} {v : V} {d : PyData} (t : Tr N H v d) : TyOf K H v (.type (tyName d)) := by
  cases t with
  | non => exact .non
  | bl b => exact .bl b
  | int i => exact .int i
  | str x => exact .str x
  | lst _ h _ => exact .lst h
  | tup _ h _ => exact .tup h
  | dct _ h => exact .dK h
def isTy (T : String) (d : PyData) : Bool := match T with
  | "int" => (match d with | .int _ => true | .bool _ => true | _ => false)
  | "bool" => (match d with | .bool _ => true | _ => false)
  | "tuple" => (match d with | .tuple _ => true | _ => false)
  | "list" => (match d with | .list _ => true | _ => false)
  | _ => false
theorem Jys {K : PySem.W.Frag} (d : PyData) : PySem.W.kitOne K (.type (tyName d)) (.type "int") = some (isTy "int" d) := by
  cases d with
  | none => exact Jb8 (a := "NoneType") (r := false) (by decide +kernel)
  | bool _ => exact Jb8 (a := "bool") (r := true) (by decide +kernel)
  | int _ => exact Jb8 (a := "int") (r := true) (by decide +kernel)
  | str _ => exact Jb8 (a := "str") (r := false) (by decide +kernel)
  | list _ => exact Jb8 (a := "list") (r := false) (by decide +kernel)
  | tuple _ => exact Jb8 (a := "tuple") (r := false) (by decide +kernel)
  | dict _ => exact Jb8 (a := "dict") (r := false) (by decide +kernel)
theorem Jve {K : PySem.W.Frag} (d : PyData) : PySem.W.kitOne K (.type (tyName d)) (.type "bool") = some (isTy "bool" d) := by
  cases d with
  | none => exact Jb8 (a := "NoneType") (r := false) (by decide +kernel)
  | bool _ => exact Jb8 (a := "bool") (r := true) (by decide +kernel)
  | int _ => exact Jb8 (a := "int") (r := false) (by decide +kernel)
  | str _ => exact Jb8 (a := "str") (r := false) (by decide +kernel)
  | list _ => exact Jb8 (a := "list") (r := false) (by decide +kernel)
  | tuple _ => exact Jb8 (a := "tuple") (r := false) (by decide +kernel)
  | dict _ => exact Jb8 (a := "dict") (r := false) (by decide +kernel)
theorem kit_tuple {K : PySem.W.Frag} (d : PyData) : PySem.W.kitOne K (.type (tyName d)) (.type "tuple") = some (isTy "tuple" d) := by
  cases d with
  | none => exact Jb8 (a := "NoneType") (r := false) (by decide +kernel)
  | bool _ => exact Jb8 (a := "bool") (r := false) (by decide +kernel)
  | int _ => exact Jb8 (a := "int") (r := false) (by decide +kernel)
  | str _ => exact Jb8 (a := "str") (r := false) (by decide +kernel)
  | list _ => exact Jb8 (a := "list") (r := false) (by decide +kernel)
  | tuple _ => exact Jb8 (a := "tuple") (r := true) (by decide +kernel)
  | dict _ => exact Jb8 (a := "dict") (r := false) (by decide +kernel)
theorem Jvd {K : PySem.W.Frag} (d : PyData) : PySem.W.kitOne K (.type (tyName d)) (.type "list") = some (isTy "list" d) := by
  cases d with
  | none => exact Jb8 (a := "NoneType") (r := false) (by decide +kernel)
  | bool _ => exact Jb8 (a := "bool") (r := false) (by decide +kernel)
  | int _ => exact Jb8 (a := "int") (r := false) (by decide +kernel)
  | str _ => exact Jb8 (a := "str") (r := false) (by decide +kernel)
  | list _ => exact Jb8 (a := "list") (r := true) (by decide +kernel)
  | tuple _ => exact Jb8 (a := "tuple") (r := false) (by decide +kernel)
  | dict _ => exact Jb8 (a := "dict") (r := false) (by decide +kernel)
end L2
end
section
set_option Elab.async false
set_option maxRecDepth 10000
set_option linter.all false
namespace L2
open PySem PySem.Spec PyProof.Rows

def Jmg : PyData → Bool
  | .none => true
  | .bool _ => true
  | .int i => decide (i.natAbs < 10 ^ 41)
  | .str x => decide (x.length ≤ 30) && x.cps.toList.all fun c => decide (c < 16 ^ 8)
  | .dict kvs => kvs.isEmpty
  | _ => false
def fit : List Nat → PyData → Bool
  | w :: ws,.list xs => decide (xs.length ≤ w) && xs.all (fit ws)
  | w :: ws,.tuple xs => decide (xs.length ≤ w) && xs.all (fit ws)
  | _,d => Jmg d
def Nx (n : Nat) (Pv : Nat → List V → Hp → Prop) (i : Nat) (ys : List V) (H : Hp) : Prop := ∃ m',m' < n - i ∧ (m' = n - (i + 1) ∧ i + 1 ≤ n ∧ Pv (i + 1) ys H)
theorem nx {n : Nat} {Pv : Nat → List V → Hp → Prop} {i : Nat} {ys : List V} {H : Hp} (hi : i < n) (p : Pv (i + 1) ys H) : Nx n Pv i ys H := ⟨n - (i + 1),by omega,rfl,hi,p⟩
section
variable {k : Nat} {caps : List Nat} {σ : St} {g : TG} {tt : TT} {te : TE} {Q : VK} {H : Hp}
end

def But (a : Addr) (H H' : Hp) : Prop := ∀ b o,b ≠ a → H b = some o → H' b = some o
theorem But.refl (a : Addr) (H : Hp) : But a H H := fun _ _ _ h => h
theorem But.trans {a : Addr} {H H1 H2 : Hp} (x : But a H H1) (y : But a H1 H2) : But a H H2 := fun b o hb h => y b o hb (x b o hb h)
theorem But.of_same {a : Addr} {H H' : Hp} (x : Same H H') : But a H H' := fun b o _ h => x b o h
theorem But.new {a : Addr} {H H' : Hp} (x : But a H H') {p : Addr} (h : H' p = none) (o : HO) : But a H (upd H' p o) := x.trans (But.of_same (Jbt h o))
theorem But.upd {a : Addr} {H : Hp} (o : HO) : But a H (L2.upd H a o) := fun b u hb h => by rw [Ja5 hb]; exact h
theorem Tr.but {a : Addr} {H H' : Hp} {v : V} {d : PyData} (t : Tr (· ≠ a) H v d) (x : But a H H') : Tr (· ≠ a) H' v d := t.keep fun b o hb h => x b o hb h
theorem Jbp.but {a : Addr} {H H' : Hp} {v : List V} {d : List PyData} (t : Jbp (· ≠ a) H v d) (x : But a H H') : Jbp (· ≠ a) H' v d := t.keep fun b o hb h => x b o hb h
def Well (H : Hp) (a : Addr) : Prop := ∃ x y : Int,H a = some (.lst [.int x,.int y])
theorem Well.same {H H' : Hp} {a : Addr} (w : Well H a) (e : Same H H') : Well H' a := by obtain ⟨x,y,h⟩ := w; exact ⟨x,y,e _ _ h⟩
theorem Well.ne {H : Hp} {a p : Addr} (w : Well H a) (h : H p = none) : p ≠ a := by obtain ⟨x,y,q⟩ := w; exact fun e => by rw [e,q] at h; cases h
theorem But.none {a p : Addr} {H H' : Hp} (x : But a H H') (w : Well H' a) (h : H' p = none) : H p = none := by
  have hne := w.ne h
  cases q : H p with
  | none => rfl
  | some o => rw [x p o hne q] at h; cases h
end L2
end
section
set_option Elab.async false
set_option maxRecDepth 10000
set_option linter.all false
namespace L2
open PySem PySem.Spec PyProof.Rows
mutual
theorem Tr.mono {N N' : Addr → Prop} {H : Hp} (e : ∀ b,N b → N' b) : ∀ {v : V} {d : PyData},Tr N H v d → Tr N' H v d
  | _,_,.non => .non
  | _,_,.bl b => .bl b
  | _,_,.int i => .int i
  | _,_,.str x => .str x
  | _,_,.lst n h t => .lst (e _ n) h (Jbp.mono e t)
  | _,_,.tup n h t => .tup (e _ n) h (Jbp.mono e t)
  | _,_,.dct n h => .dct (e _ n) h
theorem Jbp.mono {N N' : Addr → Prop} {H : Hp} (e : ∀ b,N b → N' b) : ∀ {xs : List V} {ds : List PyData},Jbp N H xs ds → Jbp N' H xs ds
  | _,_,.nil => .nil
  | _,_,.cons r t => .cons (Tr.mono e r) (Jbp.mono e t)
end
theorem Well.net {H : Hp} {a p : Addr} {xs : List V} (w : Well H a) (h : H p = some (.tup xs)) : p ≠ a := by obtain ⟨x,y,q⟩ := w; exact fun e => by rw [e,q] at h; cases h

section
variable {a : Addr} {H0 : Hp} {σ : St} {te t1 t2 : TE} {ta : TA} {d : PyData} {ds d1 d2 : List PyData} {i j : Int}
theorem Jbp.rep {N : Addr → Prop} {H : Hp} {xs : List V} {ds : List PyData} (h : Jbp N H xs ds) : ∀ n : Nat,Jbp N H (List.replicate n xs).flatten (List.replicate n ds).flatten
  | 0 => .nil
  | n + 1 => by rw [List.replicate_succ,List.replicate_succ,List.flatten_cons,List.flatten_cons]; exact h.append (h.rep n)
def cutD (xs : List PyData) (lo hi : Option Int) : List PyData := (xs.drop (HT.sIx xs.length 0 lo)).take (HT.sIx xs.length xs.length hi - HT.sIx xs.length 0 lo)
theorem Jbp.cut {N : Addr → Prop} {H : Hp} {xs : List V} {ds : List PyData} (h : Jbp N H xs ds) (lo hi : Option Int) : Jbp N H (cutV xs lo hi) (cutD ds lo hi) := by
  unfold cutV cutD
  rw [h.length]
  exact (h.drop _).take _
end
end L2
end
section
set_option Elab.async false
set_option maxRecDepth 10000
set_option linter.all false
namespace L2
open PySem PySem.Spec PyProof.Rows
section
variable {X : Cx} {K : PySem.W.Frag}
abbrev rLen (K : PySem.W.Frag) : List V → Hp → VK → Prop := fun xs H Q => ∃ p ys,xs = [.ref p] ∧ (SqL K H p ys ∨ SqT K H p ys) ∧ Q (.int ys.length) H
abbrev Jxu (K : PySem.W.Frag) : List V → Hp → VK → Prop := fun xs H Q => ∃ p ys,xs = [.ref p] ∧ (SqL K H p ys ∨ SqT K H p ys) ∧ ∀ l,H l = none → Q (.ref l) (upd H l (.lst ys))
abbrev Jut (K : PySem.W.Frag) : List V → Hp → VK → Prop := fun xs H Q => ∃ p ys,xs = [.ref p] ∧ ((SqL K H p ys ∧ ∀ l,H l = none → Q (.ref l) (upd H l (.tup ys))) ∨ (SqT K H p ys ∧ Q (.ref p) H))
theorem Ju0 {d : Addr} {D : List (PyData × PyData)} {x : Str} {p pos : Pos} {b : Expr} {ta tb : TE} (hT : ∀ h,X.K.In h → IntTab X.prog X.w h d D) (ha : PE X (.Name x p) ta) (hb : PE X b tb) (hs : Jmz b)
    (hg : ∀ r,letTemporaryGo (.Name x p) (.ref d) r = pure () := by intro _; with_unfolding_all rfl) :
    PE X (.Subscript (.Name x p) b pos) (tOp (fun x y H Q => ∃ (i j : Int),x = .ref d ∧ y = .int i ∧ lookup (.int i) D = some (.int j) ∧ Q (.int j) H) ta tb) := by
  intro pins s σ H Q I h
  refine Subscript_ (binT ha hb I h fun v u s2 x y H2 I2 rx ry q => ?_)
  obtain ⟨i,j,rfl,rfl,hl,q⟩ := q
  cases rx
  obtain ⟨t,rfl⟩ := ry
  refine item_intTab (hT _ I2.kIn) hl (fun v fl => ?_) (hs _ _) hg
  cases fl s2.heap with
  | int _ t' => exact ⟨.int j,H2,I2.tok _,⟨t',rfl⟩,q⟩
theorem Jtl (hc : X.calm = true) (hK : X.K = K) : Jdp X (.builtin "max") (fun xs H Q => ∃ (p : Addr) (ns : List Int),xs = [.ref p] ∧ SqL K H p (ns.map V.int) ∧ ns ≠ [] ∧ ∀ m,m ∈ ns → (∀ n ∈ ns,n ≤ m) → Q (.int m) H) := by
  subst hK
  intro pins s σ H xs us Q I r h
  obtain ⟨p,ns,rfl,hq,hne,q⟩ := h
  obtain ⟨u,rfl,rx⟩ := vals1 r
  cases rx
  obtain ⟨its,rv,pl,hz⟩ := I.list hq
  have hlen := rv.length
  rw [List.length_map] at hlen
  have hl := pl.isList
  have hlt : p < s.heap.objs.size := by obtain ⟨o,ho,_⟩ := hl; exact Heap.lt_size ho
  have hval : ∀ i v,its.toArray[i]? = some v → ∃ t,v = Value.int (ns.getD i 0) t := fun i v e => by
    rw [List.getElem?_toArray] at e
    have hi : i < ns.length := by rw [hlen]; exact (List.getElem?_eq_some_iff.mp e).1
    obtain ⟨u,e1,ru⟩ := rv.get (i := i) (x := .int ns[i]) (by rw [List.getElem?_map,List.getElem?_eq_getElem hi]; rfl)
    rw [e] at e1; cases e1
    have e2 : ns.getD i 0 = ns[i] := by rw [List.getD_eq_getElem?_getD,List.getElem?_eq_getElem hi]; rfl
    rw [e2]
    exact ru
  have hpos : 0 < ns.length := List.length_pos_iff.mpr hne
  refine call_max_walk (wpAny_pyIter_list hl ?_)
  refine ⟨s.heap.objs.size,[s.heap.objs.size,p],[s.heap.objs.size],its.toArray.size,fun i v => its.toArray[i]? = some v,_,_,rfl,Walks.list (by simpa using I.ok.hd hc) s.heap.objs.size p (Nat.ne_of_lt hlt) its.toArray,⟨⟨_,Heap.get?_push_size _ rfl,rfl,rfl⟩,hl.push _⟩,?_,?_,CmpOf.ints_gt (fun i => ns.getD i 0) hval,fun v h' tk hP hk => ?_⟩
  · intro b hb
    show b < (s.heap.push _).objs.size
    rw [Heap.size_push]
    rcases List.mem_cons.mp hb with z | hb
    · rw [z]; exact Nat.lt_succ_self _
    · rw [List.mem_singleton.mp hb]; exact Nat.lt_succ_of_lt hlt
  · rw [List.size_toArray,← hlen]; exact hpos
  · obtain ⟨g1,g2⟩ := argBest_gt (fun i => ns.getD i 0) (its.toArray.size - 1)
    obtain ⟨t,rfl⟩ := hval _ _ hP
    rw [List.size_toArray,← hlen] at g1 g2
    have hb : argBest (fun i j => decide (ns.getD i 0 > ns.getD j 0)) (ns.length - 1) < ns.length := by omega
    rw [List.size_toArray,← hlen]
    refine ⟨.int _,H,I.kept (h' := h') (t' := tk) fun b o e => hk b o (fun z => ?_) (Heap.get?_push_of_some _ e),⟨t,rfl⟩,q _ ?_ fun n hn => ?_⟩
    · exact absurd (List.mem_singleton.mp z) (Nat.ne_of_lt (Heap.lt_size e))
    · rw [List.getD_eq_getElem?_getD,List.getElem?_eq_getElem hb]
      exact List.getElem_mem hb
    · obtain ⟨j,hj,rfl⟩ := List.getElem_of_mem hn
      have := g2 j (by omega)
      rw [List.getD_eq_getElem?_getD,List.getElem?_eq_getElem hj] at this
      exact this
end
end L2
end
section
set_option Elab.async false
set_option maxRecDepth 10000
set_option linter.all false
namespace Bc
open PySem PySem.Spec PyProof.Rows L2
def Js1 : PyData → Bool
  | .int i => decide (i = 1 ∨ i = 2 ∨ i = 3)
  | _ => false
def Jkg : PyData → Bool
  | .tuple [.int a,.int b] => decide (a < b)
  | _ => false
def Jvz : PyData → PyData → Bool
  | .int n,.tuple ds => decide (n = 1 ∨ n = 2 ∨ n = 3) && decide (n = (ds.length : Int)) && ds.all Jkg
  | _,_ => false
abbrev D3 : List (PyData × PyData) := [(.int 1,.int 20),(.int 2,.int 10),(.int 3,.int 6)]
theorem JDr (i : Int) : (lookup (.int i) D3).isSome = decide (i = 1 ∨ i = 2 ∨ i = 3) := by
  have same_i : ∀ a b : Int,same (.int a) (.int b) = decide (a = b) := fun a b => by by_cases h : a = b <;> simp [same,h]
  simp only [lookup,same_i]
  by_cases h1 : (1 : Int) = i
  · subst h1; rfl
  by_cases h2 : (2 : Int) = i
  · subst h2; rfl
  by_cases h3 : (3 : Int) = i
  · subst h3; rfl
  rw [decide_eq_false h1,decide_eq_false h2,decide_eq_false h3]
  have h : ¬ (i = 1 ∨ i = 2 ∨ i = 3) := by omega
  rw [decide_eq_false h]
  rfl
def Marks (ms : List Int) : Prop := ms.Pairwise (· < ·) ∧ 2 ≤ ms.length ∧ ms.length ≤ 60 ∧ ∀ m ∈ ms,-(10 ^ 9) ≤ m ∧ m ≤ 10 ^ 9
def lay1 : PyData → Bool
  | .tuple es => PyData.canLayAll0 es && decide (PyData.depthAll es ≤ 60)
  | _ => true
def lay : PyData → Bool
  | .tuple ds => ds.all lay1
  | _ => true
abbrev F3 : List Nat := [9,9,9]
def nr (a : Int) : Bool := decide (-(10 ^ 9) ≤ a) && decide (a ≤ 10 ^ 9)
def bx : PyData → Bool
  | .tuple [.int a,.int b] => nr a && nr b && decide (a < b)
  | _ => false
def part (d : PyData) : Bool := fit [9,9] d && lay1 d
def good (d : PyData) : Bool := fit F3 d && lay d
theorem Jva {a : Int} (h : a.natAbs < 10 ^ 41) : Jmg (.int a) = true := decide_eq_true h
theorem Jmf {a : Int} (h : nr a = true) : Jmg (.int a) = true := by
  simp only [nr,Bool.and_eq_true,decide_eq_true_eq] at h
  exact Jva (by omega)
theorem JDv {d : PyData} (h : bx d = true) : ∃ a b,d = .tuple [.int a,.int b] ∧ nr a = true ∧ nr b = true ∧ a < b := by
  unfold bx at h
  split at h
  · rename_i a b
    simp only [Bool.and_eq_true,decide_eq_true_eq] at h
    exact ⟨a,b,rfl,h.1.1,h.1.2,h.2⟩
  · cases h
theorem JBt {d : PyData} (h : bx d = true) : part d = true ∧ fit [9] d = true ∧ d.canLay0 = true ∧ d.depth ≤ 2 ∧ Jkg d = true := by
  obtain ⟨a,b,rfl,h1,h2,h3⟩ := JDv h
  refine ⟨?_,?_,rfl,by simp [PyData.depth,PyData.depthAll],decide_eq_true h3⟩
  · simp [part,fit,lay1,PyData.canLayAll0,PyData.canLay0,PyData.depthAll,PyData.depth,Jmf h1,Jmf h2]
  · simp [fit,Jmf h1,Jmf h2]
theorem Jtx {ds : List PyData} {f g : PyData → Bool} (h : ds.all f = true) (k : ∀ d,f d = true → g d = true) : ds.all g = true := List.all_eq_true.mpr fun x hx => k x (List.all_eq_true.mp h x hx)
theorem JA3 (s : String) : (Str.ofString s).length = s.length ∧ ∀ c ∈ (Str.ofString s).cps.toList,c < 1114112 := by
  refine ⟨PySem.ofString_length _,fun c hc => ?_⟩
  rw [Str.ofString_eq_toList] at hc
  obtain ⟨x,_,rfl⟩ := List.mem_map.mp (by simpa using hc)
  have := x.valid
  rcases this with h | h
  · have h' : x.toNat < 0xd800 := h
    omega
  · have h' : x.toNat < 0x110000 := h.2
    omega
theorem str_int {a : Int} (h : nr a = true) : Jmg (.str (toString a)) = true ∧ PyData.canLay0 (.str (toString a)) = true := by
  simp only [nr,Bool.and_eq_true,decide_eq_true_eq] at h
  obtain ⟨l,c⟩ := JA3 (toString a)
  have q := int_text_length_le10 (a := a) (k := 10) (by decide) (by omega)
  constructor
  · show (decide ((Str.ofString (toString a)).length ≤ 30) && _) = true
    rw [decide_eq_true (by omega),Bool.true_and,List.all_eq_true]
    exact fun x hx => decide_eq_true (Nat.lt_trans (c x hx) (by decide))
  · show (Str.ofString (toString a)).cps.all (· < 0x110000) = true
    rw [← Array.all_toList,List.all_eq_true]
    exact fun x hx => decide_eq_true (c x hx)
def MK (a : Addr) (H : Hp) (y : V) : Prop := ∃ q ms,y = .ref q ∧ q ≠ a ∧ H q = some (.lst (ms.map V.int)) ∧ Marks ms
theorem MK.but {a : Addr} {H H' : Hp} {y : V} (h : MK a H y) (b : But a H H') : MK a H' y := by
  obtain ⟨q,ms,e,n,hq,m⟩ := h
  exact ⟨q,ms,e,n,b _ _ n hq,m⟩
end Bc
end
section
set_option Elab.async false
set_option maxRecDepth 100000
set_option linter.all false
namespace HT
open PySem PySem.Spec PyProof.Rows
open AutoSeq1 (wpAny_loadPart')
theorem Jjl : fillsNumberSlot (.type "tuple") "mul" = pure false :=
  PySem.fillsNumberSlot_seq (id := "tuple.__mul__") (r := some (.builtin "tuple.__rmul__")) PySem.F.slot_tuple_mul.lookup (by decide +kernel) PySem.F.slot_tuple_rmul.lookup (by decide +kernel)
theorem Jr2 : seqRepeat? (.type "tuple") = pure (some (.builtin "tuple.__mul__")) := by
  unfold seqRepeat?
  rw [PySem.seqSlot_of (T := "tuple") (name := "__mul__") (id := "tuple.__mul__") PySem.F.slot_tuple_mul.lookup (by decide +kernel),PySem.seqSlot_of (T := "tuple") (name := "__rmul__") (id := "tuple.__rmul__") PySem.F.slot_tuple_rmul.lookup (by decide +kernel)]
  rfl
theorem Jnw (a : Int) (t : Tok) (l : Addr) (items : Array Value) (n : Nat) (dd : Option Addr) (sl : Array (Option Value)) :
    Meets (Builtin.«int.__rmul__» ⟨[.int a t,.ref l],[]⟩) (fun _ R s => s.heap.get? l = some { cls := .type "tuple",dict := dd,data := .seq items n,slots := sl } ∧ R (.ok (.ret Value.notImplemented)) s) :=
  .of_wp fun prog w A R s h => by obtain ⟨hp,g,d,tk,os⟩ := s; obtain ⟨hl,h⟩ := h; wp_walk using wpAny_loadPart' hl; exact ⟨_,rfl,h⟩
theorem Juc (l : Addr) (items : Array Value) (n : Nat) (dd : Option Addr) (sl : Array (Option Value)) (x : Int) (u : Tok) (hc0 : ¬ (decide (x < -(2 ^ 63)) || decide (x ≥ 2 ^ 63)) = true) (hc1 : (items.isEmpty || x == 1) = true) :
    Meets (Builtin.«tuple.__mul__» ⟨[.ref l,.int x u],[]⟩) (fun _ R s => s.heap.get? l = some { cls := .type "tuple",dict := dd,data := .seq items n,slots := sl } ∧ R (.ok (.ret (Value.ref l))) { s with heap := s.heap,toks := s.toks }) :=
  .of_wp fun prog w A R s h => by obtain ⟨hp,g,d,tk,os⟩ := s; obtain ⟨hl,h⟩ := h; have f1 := AutoSeq1.idx_int; wp_walk; refine wpAny_ite_false (decide_eq_false hc0) ?_; wp_walk using wpAny_loadPart' hl; exact ⟨_,rfl,h⟩
theorem Jub (l : Addr) (items : Array Value) (n : Nat) (dd : Option Addr) (sl : Array (Option Value)) (x : Int) (u : Tok) (hc0 : ¬ (decide (x < -(2 ^ 63)) || decide (x ≥ 2 ^ 63)) = true) (hc1 : ¬ (items.isEmpty || x == 1) = true)
    (hc2 : ¬ (decide (x ≤ 0) || items.isEmpty) = true) (hc3 : ¬ (items.size : Int) * x > (2 ^ 63 - 1) / 8) (hc4 : ¬ Builtin.Tuple.tupleTooMany ((items.size : Int) * x) = true) (hsz : (List.foldl (fun x1 x2 => x1 ++ x2) #[] (List.replicate x.toNat items)).size ≤ sizeLine) :
    Meets (Builtin.«tuple.__mul__» ⟨[.ref l,.int x u],[]⟩) (fun _ R s => s.heap.get? l = some { cls := .type "tuple",dict := dd,data := .seq items n,slots := sl } ∧ R (.ok (.ret (Value.ref s.heap.objs.size))) { s with heap := s.heap.push { cls := Value.type "tuple",data := Data.seq (List.foldl (fun x1 x2 => x1 ++ x2) #[] (List.replicate x.toNat items)) },toks := s.toks }) :=
  .of_wp fun prog w A R s h => by obtain ⟨hp,g,d,tk,os⟩ := s; obtain ⟨hl,h⟩ := h; have f1 := AutoSeq1.idx_int; wp_walk; refine wpAny_ite_false (decide_eq_false hc0) ?_; wp_walk using wpAny_loadPart' hl; refine wpAny_ite_false (decide_eq_false hc3) ?_; wp_walk; exact ⟨_,rfl,h⟩
section
variable {prog : Program} {w : World} {A : Around} {E : Value → Shared → Prop} {s : Shared}
theorem Jyj {t : Addr} {its : List Value} {k : Int} {u : Tok} {Q : Value → Shared → Prop} (ht : IsTup s.heap t its.toArray) (hne : its ≠ []) (h1 : 1 ≤ k) (h2 : k < 2 ^ 60) (hz : its.length * k.toNat ≤ sizeLine)
    (q1 : k = 1 → Q (.ref t) s) (q2 : k ≠ 1 → Q (.ref s.heap.objs.size) { s with heap := s.heap.push { cls := .type "tuple",data := .seq (List.replicate k.toNat its).flatten.toArray } }) :
    wpAny (model prog w) A (binaryOp .Mult (.ref t) (.int k u)) Q E s := by
  obtain ⟨⟨c1,d1,x1,sl1⟩,ho,hc,n,hd⟩ := id ht
  simp only at hc hd
  subst hc hd
  have c0 : ¬ (decide (k < -(2 ^ 63)) || decide (k ≥ 2 ^ 63)) = true := by
    rw [decide_eq_false (by omega),decide_eq_false (by omega)]; exact Bool.false_ne_true
  have ne : its.toArray.isEmpty = false := by cases its with | nil => exact absurd rfl hne | cons _ _ => rfl
  have hnew : List.foldl (fun x1 x2 => x1 ++ x2) #[] (List.replicate k.toNat its.toArray) = (List.replicate k.toNat its).flatten.toArray := by
    have := L2.foldl_rep its k.toNat []
    rw [List.nil_append] at this
    exact this
  refine wpAny_binaryOp_repeat_ref (T := "tuple") (U := "int") (by decide) ⟨_,ho,rfl⟩ (fun s' => typeIs_int s' k u) Jjl PySem.F.fills_int_mul PySem.F.slot_int_rmul Jr2 PySem.F.slot_int_index.lookup
    (call_meets PySem.F.slot_int_rmul (typeIs_int s k u) PySem.F.entry_int_rmul (PySem.F.args_int_rmul_2 _ _) (Jnw k u t its.toArray n d1 sl1) ⟨ho,rfl,⟨_,ho,rfl⟩,?_⟩)
  by_cases k1 : k = 1
  · exact call_meets PySem.F.slot_tuple_mul ⟨_,ho,rfl⟩ PySem.F.entry_tuple_mul (PySem.F.args_tuple_mul_2 _ _) (Juc t its.toArray n d1 sl1 k u c0 (by rw [k1]; simp)) ⟨ho,q1 k1⟩
  · have e : ((its.toArray.size : Nat) : Int) * k = ((its.length * k.toNat : Nat) : Int) := by
      rw [List.size_toArray,Int.natCast_mul,Int.toNat_of_nonneg (by omega)]
    have hs : (sizeLine : Nat) = 16777216 := by decide
    refine call_meets PySem.F.slot_tuple_mul ⟨_,ho,rfl⟩ PySem.F.entry_tuple_mul (PySem.F.args_tuple_mul_2 _ _) (Jub t its.toArray n d1 sl1 k u c0 ?_ ?_ ?_ ?_ ?_) ⟨ho,?_⟩
    · rw [ne]; simp [k1]
    · rw [ne,decide_eq_false (by omega)]; exact Bool.false_ne_true
    · rw [e]; omega
    · rw [e]
      unfold Builtin.Tuple.tupleTooMany
      rw [decide_eq_true_eq]
      omega
    · rw [hnew,List.size_toArray,L2.len_rep,Nat.mul_comm]; exact hz
    · rw [hnew]; exact q2 k1
end
end HT
namespace L2
open PySem PySem.Spec PyProof.Rows
abbrev Jz4 : R2 := fun x y H Q => ∃ (a : Addr) (k : Int) (xs : List V),x = .ref a ∧ y = .int k ∧ H a = some (.tup xs) ∧ xs ≠ [] ∧ 1 ≤ k ∧ k < 2 ^ 60 ∧ xs.length * k.toNat ≤ sizeLine ∧ ∀ p H',Same H H' → H' p = some (.tup (List.replicate k.toNat xs).flatten) → Q (.ref p) H'
section
variable {X : Cx}
theorem Jyd : OpR X (binaryOp .Mult) Jz4 := by
  intro pins s σ H x y v u Q I rx ry h
  obtain ⟨a,k,xs,rfl,rfl,ha,hne,k1,k2,hz,q⟩ := h
  cases rx
  obtain ⟨t,rfl⟩ := ry
  obtain ⟨its,r1,p1,_⟩ := I.tuple (SqT.of ha)
  refine HT.Jyj p1 (fun z => hne (r1.Jmc.mp z)) k1 k2 (by rw [← r1.length]; exact hz) (fun e => ?_) (fun e => ?_)
  · refine ⟨.ref a,H,I,rfl,q a H (Same.refl H) ?_⟩
    rw [e]
    simpa using ha
  · refine ⟨.ref s.heap.objs.size,_,I.laid (t' := s.toks) (o := .tup (List.replicate k.toNat xs).flatten) (fun b ob q => Heap.get?_push_of_some _ q) (Nat.le_refl _) ?_,rfl,q _ _ (Jbt (I.hok.fresh (Nat.le_refl _)) _) Ja6⟩
    exact ⟨by rw [len_rep,Nat.mul_comm]; exact hz,_,r1.rep k.toNat,IsTup.new _ _⟩
end
section
variable {X : Cx}
end
section
variable {a : Addr} {H0 : Hp} {σ : St} {te t1 t2 : TE} {ta : TA} {d : PyData} {ds d1 d2 : List PyData} {i j : Int} {K : PySem.W.Frag}
end
def Nq (a q : Addr) : Addr → Prop := fun b => b ≠ a ∧ b ≠ q
structure Wq (a q : Addr) (bs : List V) (H : Hp) : Prop where
  w : Well H a
  at_ : H q = some (.lst bs)
  ne : q ≠ a
section
variable {a q p : Addr} {bs : List V} {H H' : Hp}
theorem Wq.same (x : Wq a q bs H) (s : Same H H') : Wq a q bs H' := ⟨x.w.same s,s _ _ x.at_,x.ne⟩
theorem Wq.but (x : Wq a q bs H) (b : But a H H') (w : Well H' a) : Wq a q bs H' := ⟨w,b _ _ x.ne x.at_,x.ne⟩
theorem Wq.new (x : Wq a q bs H) (h : H p = none) : Nq a q p := ⟨x.w.ne h,fun e => by rw [e,x.at_] at h; cases h⟩
theorem Wq.tup {xs : List V} (x : Wq a q bs H) (h : H p = some (.tup xs)) : Nq a q p := ⟨x.w.net h,fun e => by rw [e,x.at_] at h; cases h⟩
theorem Tr.grow {v : V} {d : PyData} {o : HO} (t : Tr (Nq a q) H v d) : Tr (Nq a q) (upd H q o) v d := t.keep fun b o hb h => by rw [Ja5 hb.2]; exact h
theorem Jbp.grow {v : List V} {d : List PyData} {o : HO} (t : Jbp (Nq a q) H v d) : Jbp (Nq a q) (upd H q o) v d := t.keep fun b o hb h => by rw [Ja5 hb.2]; exact h
abbrev Jz6 : R2 := fun x y H Q => ∃ (a b : Addr) (xs ys : List V),x = .ref a ∧ y = .ref b ∧ H a = some (.tup xs) ∧ H b = some (.tup ys) ∧ xs.length + ys.length ≤ sizeLine ∧ ∀ p H',Same H H' → H' p = some (.tup (xs ++ ys)) → Q (.ref p) H'
abbrev rSlG : V → Option Int → Option Int → Hp → VK → Prop := fun x lo hi H Q => ∃ (a : Addr) (xs : List V),x = .ref a ∧ H a = some (.tup xs) ∧ ∀ p H',Same H H' → H' p = some (.tup (cutV xs lo hi)) → Q (.ref p) H'
end
end L2
end
section
set_option Elab.async false
set_option maxRecDepth 10000
set_option linter.all false
namespace L2
open PySem PySem.Spec PyProof.Rows
end L2
namespace Bc
open PySem PySem.Spec PyProof.Rows L2
def Jsm : PyData → Nat
  | .int 1 => 20
  | .int 2 => 10
  | .int 3 => 6
  | _ => 0
def JBk : PyData → Bool
  | .tuple [w,.list bs] => Js1 w && decide (bs.length ≤ Jsm w) && bs.all (Jvz w)
  | _ => false
def boxD (n : Nat) : PyData → Bool
  | .tuple es => decide (es.length = n) && es.all bx
  | _ => false
theorem Jzl {n : Nat} {d : PyData} (h : boxD n d = true) : ∃ es,d = .tuple es ∧ es.length = n ∧ es.all bx = true := by
  cases d with
  | tuple es => simp only [boxD,Bool.and_eq_true,decide_eq_true_eq] at h; exact ⟨es,rfl,h.1,h.2⟩
  | _ => cases h
def MK2 (a q : Addr) (H : Hp) (y : V) : Prop := ∃ r ms,y = .ref r ∧ Nq a q r ∧ H r = some (.lst (ms.map V.int)) ∧ Marks ms
theorem MK2.but {a q : Addr} {H H' : Hp} {y : V} (h : MK2 a q H y) (b : But a H H') : MK2 a q H' y := by
  obtain ⟨r,ms,e,n,hq,m⟩ := h
  exact ⟨r,ms,e,n,b _ _ n.1 hq,m⟩
theorem MK2.grow {a q : Addr} {H : Hp} {y : V} {o : HO} (h : MK2 a q H y) : MK2 a q (upd H q o) y := by
  obtain ⟨r,ms,e,n,hq,m⟩ := h
  exact ⟨r,ms,e,n,by rw [Ja5 n.2]; exact hq,m⟩
end Bc
end
section
set_option Elab.async false
set_option maxRecDepth 10000
set_option linter.all false
namespace L2
open PySem PySem.Spec PyProof.Rows
theorem Inv.Jrg {X : Cx} {pins : List (Addr × Obj)} {σ : St} {H : Hp} {s : Shared} {h' : Heap} {t' : Nat} {fp : List Addr} (I : Inv X pins σ H s) (k : ∀ b o,b ∉ fp → s.heap.get? b = some o → h'.get? b = some o) (hf : ∀ b ∈ fp,FpOk X pins H b) :
    Inv X pins σ H { s with heap := h',toks := t' } := by
  have nit : ∀ b u,H b = some u → b ∉ fp := fun b u e z => by
    have := (hf b z).1
    rw [this] at e
    cases e
  refine I.step (g' := s.gens) (d' := s.drawn) (ch := fp) (fun b hb => ?_) (fun b o _ _ hc e _ => k b o hc e) (fun b o _ _ hc e _ => ⟨o.slots,k b o hc e⟩) (fun _ _ _ _ n => n) (fun b o hc e => ⟨o,k b o hc e⟩) (fun _ _ e => e) (fun _ _ _ e => e)
    (fun b ps e => ⟨#[],by rw [e]; simp⟩) (fun m hm => ?_) (fun b u e => ?_) I.bare id
  · obtain ⟨_,a2,_,a4,a5,a6⟩ := hf b hb
    exact ⟨a4,a2,a5,a6⟩
  · obtain ⟨o,es,ep,ho,r⟩ := hm
    exact ⟨o,es,ep,k _ o (fun z => (hf _ z).2.1 rfl) ho,r⟩
  · refine (I.hok b u e).stay (fun c v hc q => k c v ?_ q) (fun _ q => q) fun _ _ q => q
    rcases hc with z | z
    · rw [z]; exact nit b u e
    · exact nit c _ z
theorem Inv.JC4 {X : Cx} {pins : List (Addr × Obj)} {σ : St} {H : Hp} {s : Shared} {h' : Heap} {t' : Nat} {fp : List Addr} {x y : V} {u v : Value} (I : Inv X pins σ H s) (rx : RelV x u) (ry : RelV y v)
    (ht : h'.get? s.heap.objs.size = some { cls := .type "tuple",data := .seq #[u,v] }) (k : ∀ b o,b ∉ fp → s.heap.get? b = some o → h'.get? b = some o) (hf : ∀ b ∈ fp,FpOk X pins H b) (hlt : ∀ b ∈ fp,b < s.heap.objs.size) :
    Inv X pins σ (upd H s.heap.objs.size (.tup [x,y])) { s with heap := h',toks := t' } := by
  have I1 := I.laid (h' := s.heap.push { cls := .type "tuple",data := .seq #[u,v] }) (t' := s.toks) (a := s.heap.objs.size) (o := .tup [x,y]) (fun b ob q => Heap.get?_push_of_some _ q) (Nat.le_refl _)
    ⟨(by decide : 2 ≤ sizeLine),[u,v],.cons rx (.cons ry .nil),IsTup.new _ _⟩
  refine Inv.Jrg (s := { s with heap := s.heap.push { cls := .type "tuple",data := .seq #[u,v] } }) (h' := h') (t' := t') (fp := fp) I1 (fun b o hb e => ?_) (fun b hb => ?_)
  · rcases Heap.get?_push_cases e with ⟨z1,z2⟩ | z
    · rw [z1,z2]
      exact ht
    · exact k b o hb z
  · obtain ⟨a1,a2,a3,a4,a5,a6⟩ := hf b hb
    exact ⟨by rw [Ja5 (Nat.ne_of_lt (hlt b hb))]; exact a1,a2,a3,a4,a5,a6⟩
def Ite (K : PySem.W.Frag) (a : Addr) : It :=
  ⟨fun i H => ∃ xs x,SqL K H a xs ∧ xs[i]? = some x,fun i H v H' => ∃ p x,H p = none ∧ v = .ref p ∧ H' = upd H p (.tup [.int i,x]) ∧ ∀ xs,SqL K H a xs → xs[i]? = some x,fun i H => ∃ xs,SqL K H a xs ∧ xs.length ≤ i⟩
theorem Jri {P : Program} {w : World} {K : PySem.W.Frag} {elts : List Expr} {x1 : Nat} {pos : Pos} (a e it : Addr) (hne : e ≠ it) :
    Turn P w K (.Tuple elts x1 pos) (Ite K a) [e,it] e (fun i h => (∃ old,IsEnum h e it (i : Nat) old) ∧ h.IsListIter it a i) where
  mem := by simp
  obj := fun i h st b hb => by
    obtain ⟨⟨old,he⟩,o,e1,c,d⟩ := st
    simp only [List.mem_cons,List.not_mem_nil,or_false] at hb
    rcases hb with rfl | rfl
    · exact ⟨_,he,fun v z => by cases z⟩
    · exact ⟨o,e1,fun v z => by rw [d] at z; cases z⟩
  keep := fun i h h' st k => by
    obtain ⟨⟨old,he⟩,hit⟩ := st
    exact ⟨⟨old,k e (by simp) _ he⟩,hit.at fun o q => k it (by simp) o q⟩
  item := by
    intro X hP hw hK hc i pins s σ H E I hf st hg
    subst hP hw hK
    obtain ⟨xs,x,hq,hx⟩ := hg
    obtain ⟨its,rv,p,hz⟩ := I.list hq
    obtain ⟨u,hu,ru⟩ := rv.get hx
    obtain ⟨⟨old,he⟩,hit⟩ := st
    have lt1 : e < s.heap.objs.size := Heap.lt_size he
    have lt2 : it < s.heap.objs.size := by obtain ⟨o,q,_⟩ := hit; exact Heap.lt_size q
    refine wpAny_pyNext_enum_item he hit p.isList (x := u) (by simpa using hu) hne fun h' eo it' tp sz k => ⟨_,rfl,?_⟩
    refine wpAny_letOwnedTupleGo_enum eo fun h2 e2 sb => ?_
    have ne2 : s.heap.objs.size ≠ e := Nat.ne_of_gt lt1
    have J := I.JC4 (h' := h2) (t' := s.toks + 1) (fp := [e,it]) (x := .int i) (y := x) (u := .int i s.toks) (v := u) ⟨_,rfl⟩ ru (sb.extBut _ _ ne2 tp) (fun b o hb q => by
      simp only [List.mem_cons,List.not_mem_nil,or_false,not_or] at hb
      exact sb.extBut _ _ hb.1 (k b o hb.1 hb.2 q)) hf (fun b hb => by
      simp only [List.mem_cons,List.not_mem_nil,or_false] at hb
      rcases hb with rfl | rfl
      · exact lt1
      · exact lt2)
    refine ⟨.ref s.heap.objs.size,_,J,rfl,⟨_,x,I.hok.fresh (Nat.le_refl _),rfl,rfl,fun ys hy => by rw [I.Jp5 hy hq]; exact hx⟩,⟨⟨u,e2⟩,it'.at fun o q => sb.extBut _ _ (Ne.symm hne) q⟩,fun b hb => ?_⟩
    rw [Ja5]
    · exact (hf b hb).1
    · simp only [List.mem_cons,List.not_mem_nil,or_false] at hb
      rcases hb with rfl | rfl
      · exact Nat.ne_of_lt lt1
      · exact Nat.ne_of_lt lt2
  done := by
    intro X hP hw hK hc i pins s σ H E I hf st hg
    subst hP hw hK
    obtain ⟨xs,hq,hx⟩ := hg
    obtain ⟨its,rv,p,hz⟩ := I.list hq
    obtain ⟨⟨old,he⟩,hit⟩ := st
    have hl := rv.length
    exact wpAny_pyNext_enum_end (I.ok.hd hc) he hit p.isList (by simp; omega) fun h' eb => ⟨rfl,I.Jrg (t' := s.toks) (fp := [e,it]) (fun b o hb q => eb b o (fun z => hb (by simp [z])) q) hf⟩
  self := fun _ _ _ _ _ st h => by
    obtain ⟨⟨old,he⟩,_⟩ := st
    exact wpAny_pyIter_enum he h
abbrev JDt (K : PySem.W.Frag) (ta : TA) : TI := fun σ H R => ta σ H fun vs H1 => ∃ a,vs = [.ref a] ∧ (∃ xs,SqL K H1 a xs) ∧ R (Ite K a) H1
section
variable {X : Cx}
theorem Jx7 {a : Expr} {ta : TA} {p pos : Pos} {elts : List Expr} {x1 : Nat} {tpos : Pos} (hg : Gl X "enumerate") (hm : X.mg "enumerate" = none) (ha : PA X [a] ta) (hs : starEach [a] X.env = [(false,eval a X.env)] := by rfl) :
    PI X (.Tuple elts x1 tpos) (.Call (.Name "enumerate" p) [a] [] pos) (JDt X.K ta) := by
  intro pins s σ H R I h
  refine Call_ (Jka I hg hm (by decide +kernel : bootBuiltins "enumerate" = some (.type "enumerate")) (PyProof.Rows.callWith_type1 (thn (ha pos pins s σ H _ I h) fun us s1 ⟨vs,H1,I1,r1,q1⟩ => ?_) hs rfl))
  obtain ⟨l,e,⟨xs,hq⟩,q⟩ := q1
  subst e
  cases r1 with
  | cons r rr =>
    cases rr
    cases r
    obtain ⟨its,rv,pl,hz⟩ := I1.list hq
    refine call_enumerate_list pl.isList fun h' e1 i1 sz k => ?_
    refine wpAny_pyIter_enum e1 ?_
    refine ⟨s1.heap.objs.size + 1,[s1.heap.objs.size + 1,s1.heap.objs.size],_,_,H1,rfl,I1.kept (t' := s1.toks) k,Jri l _ _ (Nat.succ_ne_self _),⟨⟨_,e1⟩,i1⟩,fun b hb => ?_,q⟩
    have hb' : s1.heap.objs.size ≤ b := by
      simp only [List.mem_cons,List.not_mem_nil,or_false] at hb
      rcases hb with rfl | rfl <;> omega
    exact I1.fpOk hb' (I1.hok.fresh hb')
end
end L2
end
section
set_option Elab.async false
set_option maxRecDepth 100000
set_option linter.all false
namespace HT
open PySem PySem.Spec PyProof.Rows
section
variable {prog : Program} {w : World} {A : Around} {E : Value → Shared → Prop} {s : Shared}
theorem nextT {it t : Addr} {i : Nat} {ws : Array Value} {x : Value} {Q : Value → Shared → Prop} (c : s.heap.IsTupleIter it t i) (ct : s.heap.IsTuple t ws) (ex : ws[i]? = some x)
    (q : ∀ h',h'.IsTupleIter it t (i + 1) → Heap.SameBut it s.heap h' → Q x { s with heap := h' }) : wpAny (model prog w) A (Builtin.SmallTypes.nextOf (.ref it)) Q E s := by
  obtain ⟨o,e0,e1,e2⟩ := id c
  obtain ⟨ot,f0,_,nt,f1⟩ := ct
  unfold Builtin.SmallTypes.nextOf
  refine wpAny_bind (wpAny_callSpecial?_slot (name := Str.ofString "__next__") c.typeIs PySem.F.slot_tuple_iterator_next (wpAny_call_entry PySem.F.slot_tuple_iterator_next c.typeIs PySem.F.entry_tuple_iterator_next ?_ (PySem.F.args_tuple_iterator_next_1 _)))
  refine (show wpAny _ _ (field (.ref it) 0 >>= _) _ _ s from wpAny_bind (wpAny_field e0 e2 (x := .ref t) rfl ?_))
  show wpAny _ _ (ite ((Value.ref t == Value.none) = true) _ _) _ _ s
  rw [if_neg (by exact Bool.false_ne_true)]
  refine (show wpAny _ _ (field (.ref it) 1 >>= _) _ _ s from wpAny_bind (wpAny_field e0 e2 (x := .int i 0) rfl ?_))
  refine (show wpAny _ _ (seqItems? (.ref t) >>= _) _ _ s from wpAny_bind (wpAny_seqItems f0 f1 ?_))
  simp only [ex,Int.toNat_natCast]
  refine wpAny_bind (wpAny_setField e0 e2 (by simp) (wpAny_pure ⟨x,rfl,wpAny_pure (q _ ⟨_,Heap.get?_update_self _ e0 (Obj.isFreed_of_fields (Obj.data_mapFields e2 _)),(Obj.cls_mapFields ..).trans e1,?_⟩ (Heap.SameBut.update ..))⟩))
  rw [Obj.data_mapFields e2]
  simp [rawInt]
theorem JA4 {it t : Addr} {i : Nat} {ws : Array Value} {Q : Value → Shared → Prop} (ha : A.handled = none) (c : s.heap.IsTupleIter it t i) (ct : s.heap.IsTuple t ws) (ex : ws[i]? = none)
    (q : ∀ h' e,Heap.ExtBut it s.heap h' → (∃ o,h'.get? e = some o ∧ o.cls = .type "StopIteration") → E (.ref e) { s with heap := h' }) : wpAny (model prog w) A (Builtin.SmallTypes.nextOf (.ref it)) Q E s := by
  obtain ⟨o,e0,e1,e2⟩ := id c
  obtain ⟨ot,f0,_,nt,f1⟩ := ct
  unfold Builtin.SmallTypes.nextOf
  refine wpAny_bind (wpAny_callSpecial?_slot (name := Str.ofString "__next__") c.typeIs PySem.F.slot_tuple_iterator_next (wpAny_call_entry PySem.F.slot_tuple_iterator_next c.typeIs PySem.F.entry_tuple_iterator_next ?_ (PySem.F.args_tuple_iterator_next_1 _)))
  refine (show wpAny _ _ (field (.ref it) 0 >>= _) _ _ s from wpAny_bind (wpAny_field e0 e2 (x := .ref t) rfl ?_))
  show wpAny _ _ (ite ((Value.ref t == Value.none) = true) _ _) _ _ s
  rw [if_neg (by exact Bool.false_ne_true)]
  refine (show wpAny _ _ (field (.ref it) 1 >>= _) _ _ s from wpAny_bind (wpAny_field e0 e2 (x := .int i 0) rfl ?_))
  refine (show wpAny _ _ (seqItems? (.ref t) >>= _) _ _ s from wpAny_bind (wpAny_seqItems f0 f1 ?_))
  simp only [ex,Int.toNat_natCast]
  refine wpAny_bind (wpAny_rule (wpAny_bind (wpAny_setField e0 e2 (by simp) (show wpAny _ _ (newExc (.type "StopIteration") [] >>= _) _ _ _ from wpAny_bind ?_))))
  simp only [newTuple,newExc]
  refine wpAny_bind (wpAny_newObj_type (wpAny_bind (m := firstArgMember _ _) (wpAny_of_eq (a := Value.none) (by first | rfl | (simp only [firstArgMember]; rfl)) (wpAny_newObj_type ?_ (by size_fits)))) (by size_fits))
  simp only [raiseNew]
  refine wpAny_bind (wpAny_handled ?_)
  rw [show A.in1.handled = none from ha]
  exact wpAny_bind (wpAny_pure (wpAny_throw (q _ _ (((Heap.SameBut.update ..).extBut.push _).push _) ⟨_,Heap.get?_push_size _ rfl,rfl⟩)))
theorem JBr (ha : A.handled = none) (it t : Addr) (ne : t ≠ it) (ws : Array Value) : Draws prog w A it [it,t] ws.size (fun i v => ws[i]? = some v) (fun i h => h.IsTupleIter it t i ∧ h.IsTuple t ws) where
  live := fun _ _ st => let ⟨o,e,_⟩ := st.1; ⟨o,e⟩
  frame := fun _ _ _ st k => ⟨st.1.at fun o e => k it (by simp) o e,st.2.at fun o e => k t (by simp) o e⟩
  item := fun i s Q E hi st q => nextT st.1 st.2 (x := ws[i]) (by simp [hi]) fun h' c' sb => q _ h' s.toks (by simp [hi]) ⟨c',st.2.extBut sb.extBut ne⟩ sb
  done := fun s Q E st q => JA4 ha st.1 st.2 (by simp) q
structure Apart (z TI TO i1 i2 : Addr) (fp1 fp2 : List Addr) : Prop where
  a1 : TI ≠ z
  a2 : TO ≠ z
  a3 : TI ≠ TO
  b1 : ∀ b ∈ fp1,b ≠ z ∧ b ≠ TO ∧ b ≠ i2
  b2 : ∀ b ∈ fp2,b ≠ z ∧ b ≠ TO ∧ b ≠ i1
  c1 : i1 ≠ z ∧ i1 ≠ TO ∧ i1 ≠ TI
  c2 : i2 ≠ z ∧ i2 ≠ TO ∧ i2 ≠ TI
  c3 : i1 ≠ i2
section
variable {z TI TO i1 i2 : Addr} {fp1 fp2 : List Addr} {n1 n2 k : Nat} {P1 P2 : Nat → Value → Prop} {S1 S2 : Nat → Heap → Prop} {a b : Value}
theorem zipI {Q : Value → Shared → Prop} (D1 : Draws prog w A i1 fp1 n1 P1 S1) (D2 : Draws prog w A i2 fp2 n2 P2 S2) (D : Apart z TI TO i1 i2 fp1 fp2) (hZ : IsZip s.heap z TI TO .none) (hI : IsPair s.heap TI (.ref i1) (.ref i2)) (hO : IsPair s.heap TO a b)
    (s1 : S1 k s.heap) (s2 : S2 k s.heap) (k1 : k < n1) (k2 : k < n2)
    (q : ∀ x y h' tk,P1 k x → P2 k y → IsZip h' z TI TO (rawInt s.heap.objs.size) → IsPair h' TO x y → S1 (k + 1) h' → S2 (k + 1) h' → IsPair h' s.heap.objs.size x y → h'.objs.size = s.heap.objs.size + 1 →
      (∀ c o,c ≠ z → c ≠ TO → c ≠ i1 → c ≠ i2 → s.heap.get? c = some o → h'.get? c = some o) → Q (.ref s.heap.objs.size) { s with heap := h',toks := tk }) :
    wpAny (model prog w) A (Builtin.«zip.__next__» ⟨[.ref z],[]⟩) (fun fin s' => ∃ v,fin = .done (.ret v) ∧ Q v s') E s := by
  obtain ⟨hp,g,d,tk0,os⟩ := s
  refine (show wpAny _ _ (field (.ref z) 2 >>= _) _ _ _ from wpAny_bind (wpAny_field hZ rfl (x := .bool false) rfl ?_))
  refine (show wpAny _ _ (field (.ref z) 3 >>= _) _ _ _ from wpAny_bind (wpAny_field hZ rfl (x := .ref TI) rfl (wpAny_bind (wpAny_seqItems hI rfl ?_))))
  refine (show wpAny _ _ (Builtin.SmallTypes.ownedTupleIsFree (.ref z) >>= _) _ _ _ from wpAny_bind ?_)
  unfold Builtin.SmallTypes.ownedTupleIsFree
  refine wpAny_bind (wpAny_field hZ rfl (x := .none) rfl (wpAny_pure ?_))
  simp only [if_true]
  refine wpAny_bind (wpAny_rule (wpAny_bind (wpAny_field hZ rfl (x := .ref TO) rfl (wpAny_bind (wpAny_setField_rec hZ (by simp) fun g1 z1 m1 => ?_)))))
  replace z1 : IsZip g1 z TI TO .ellipsis := z1
  replace m1 : Heap.SameBut z hp g1 := m1
  refine wpAny_bind ?_
  simp only [List.zipIdx_cons,List.zipIdx_nil,List.forIn_cons,List.forIn_nil]
  have t1 : S1 k g1 := D1.frame _ _ _ s1 fun c hc o e => m1.extBut _ _ (D.b1 c hc).1 e
  have u1 : S2 k g1 := D2.frame _ _ _ s2 fun c hc o e => m1.extBut _ _ (D.b2 c hc).1 e
  refine wpAny_bind (wpAny_bind (wpAny_onRaise (show wpAny _ _ (Builtin.SmallTypes.nextOf (.ref i1) >>= _) _ _ _ from wpAny_bind (D1.item k ⟨g1,g,d,tk0,os⟩ _ _ k1 t1 fun x g2 tk1 px t2 m2 => wpAny_pure ?_))))
  replace m2 : Heap.SameBut i1 g1 g2 := m2
  have o2 : IsPair g2 TO a b := m2.extBut _ _ (Ne.symm D.c1.2.1) (m1.extBut _ _ D.a2 hO)
  refine wpAny_bind (wpAny_seqItems o2 rfl (wpAny_bind (wpAny_updateSeq_pair o2 fun g3 o3 m3 => ?_)))
  replace o3 : IsPair g3 TO x b := o3
  replace m3 : Heap.SameBut TO g2 g3 := m3
  have u3 : S2 k g3 := D2.frame _ _ _ u1 fun c hc o e => m3.extBut _ _ (D.b2 c hc).2.1 (m2.extBut _ _ (D.b2 c hc).2.2 e)
  refine wpAny_bind (wpAny_letGo (wpAny_pure ?_))
  refine wpAny_bind (wpAny_bind (wpAny_onRaise (show wpAny _ _ (Builtin.SmallTypes.nextOf (.ref i2) >>= _) _ _ _ from wpAny_bind (D2.item k ⟨g3,g,d,tk1,os⟩ _ _ k2 u3 fun y g4 tk2 py u4 m4 => wpAny_pure ?_))))
  replace m4 : Heap.SameBut i2 g3 g4 := m4
  have o4 : IsPair g4 TO x b := m4.extBut _ _ (Ne.symm D.c2.2.1) o3
  refine wpAny_bind (wpAny_seqItems o4 rfl (wpAny_bind (wpAny_updateSeq_pair o4 fun g5 o5 m5 => ?_)))
  replace o5 : IsPair g5 TO x y := o5
  replace m5 : Heap.SameBut TO g4 g5 := m5
  refine wpAny_bind (wpAny_letGo (wpAny_pure (wpAny_pure (wpAny_bind (wpAny_seqItems o5 rfl (wpAny_bind (wpAny_newTuple ?_)))))))
  have sz : g5.objs.size = hp.objs.size := by rw [m5.1,m4.1,m3.1,m2.1,m1.1]
  have z5 : IsZip g5 z TI TO .ellipsis := m5.extBut _ _ (Ne.symm D.a2) (m4.extBut _ _ (Ne.symm D.c2.1) (m3.extBut _ _ (Ne.symm D.a2) (m2.extBut _ _ (Ne.symm D.c1.1) z1)))
  have kk : ∀ c o,c ≠ z → c ≠ TO → c ≠ i1 → c ≠ i2 → hp.get? c = some o → g5.get? c = some o := fun c o n1 n2 n3 n4 e => m5.extBut _ _ n2 (m4.extBut _ _ n4 (m3.extBut _ _ n2 (m2.extBut _ _ n3 (m1.extBut _ _ n1 e))))
  have lz : z < g5.objs.size := Heap.lt_size z5
  refine (show wpAny _ _ (Builtin.SmallTypes.ownedTupleHandOut (.ref z) (.ref g5.objs.size) >>= _) _ _ _ from wpAny_bind ?_)
  unfold Builtin.SmallTypes.ownedTupleHandOut
  have z6 : IsZip (g5.push { cls := .type "tuple",data := .seq #[x,y] }) z TI TO .ellipsis := Heap.get?_push_of_some _ z5
  refine wpAny_bind (wpAny_setField_rec z6 (by simp) fun g7 z7 m7 => ?_)
  replace z7 : IsZip g7 z TI TO (rawInt g5.objs.size) := z7
  refine wpAny_setField_rec z7 (by simp) fun g8 z8 m8 => ?_
  replace z8 : IsZip g8 z TI TO (rawInt g5.objs.size) := z8
  have up : ∀ c o,c ≠ z → g5.get? c = some o → g8.get? c = some o := fun c o n e => m8.extBut _ _ n (m7.extBut _ _ n (Heap.get?_push_of_some _ e))
  have p8 : IsPair g8 g5.objs.size x y := m8.extBut _ _ (Nat.ne_of_gt lz) (m7.extBut _ _ (Nat.ne_of_gt lz) (Heap.get?_push_size _ rfl))
  have w8 : g8.objs.size = g5.objs.size + 1 := by rw [m8.1,m7.1,Heap.size_push]
  rw [sz] at z8 p8 w8
  refine wpAny_pure ⟨_,rfl,?_⟩
  show Q (.ref g5.objs.size) _
  rw [sz]
  refine q x y g8 tk2 px py z8 (up _ _ D.a2 o5) ?_ ?_ p8 w8 fun c o n1 n2 n3 n4 e => up c o n1 (kk c o n1 n2 n3 n4 e)
  · exact D1.frame _ _ _ t2 fun c hc o e => up _ _ (D.b1 c hc).1 (m5.extBut _ _ (D.b1 c hc).2.1 (m4.extBut _ _ (D.b1 c hc).2.2 (m3.extBut _ _ (D.b1 c hc).2.1 e)))
  · exact D2.frame _ _ _ u4 fun c hc o e => up _ _ (D.b2 c hc).1 (m5.extBut _ _ (D.b2 c hc).2.1 e)
theorem zipE {Q : PySem.Fin → Shared → Prop} (D1 : Draws prog w A i1 fp1 n1 P1 S1) (D2 : Draws prog w A i2 fp2 n2 P2 S2) (D : Apart z TI TO i1 i2 fp1 fp2) (hZ : IsZip s.heap z TI TO .none) (hI : IsPair s.heap TI (.ref i1) (.ref i2)) (hO : IsPair s.heap TO a b)
    (s1 : S1 k s.heap) (s2 : S2 k s.heap) (ke : k = n1 ∨ (k < n1 ∧ k = n2))
    (q : ∀ h' e tk,(∀ c o,c ≠ z → c ≠ TO → c ≠ i1 → c ≠ i2 → s.heap.get? c = some o → h'.get? c = some o) → (∃ o,h'.get? e = some o ∧ o.cls = .type "StopIteration") → E (.ref e) { s with heap := h',toks := tk }) :
    wpAny (model prog w) A (Builtin.«zip.__next__» ⟨[.ref z],[]⟩) Q E s := by
  obtain ⟨hp,g,d,tk0,os⟩ := s
  refine (show wpAny _ _ (field (.ref z) 2 >>= _) _ _ _ from wpAny_bind (wpAny_field hZ rfl (x := .bool false) rfl ?_))
  refine (show wpAny _ _ (field (.ref z) 3 >>= _) _ _ _ from wpAny_bind (wpAny_field hZ rfl (x := .ref TI) rfl (wpAny_bind (wpAny_seqItems hI rfl ?_))))
  refine (show wpAny _ _ (Builtin.SmallTypes.ownedTupleIsFree (.ref z) >>= _) _ _ _ from wpAny_bind ?_)
  unfold Builtin.SmallTypes.ownedTupleIsFree
  refine wpAny_bind (wpAny_field hZ rfl (x := .none) rfl (wpAny_pure ?_))
  simp only [if_true]
  refine wpAny_bind (wpAny_rule (wpAny_bind (wpAny_field hZ rfl (x := .ref TO) rfl (wpAny_bind (wpAny_setField_rec hZ (by simp) fun g1 z1 m1 => ?_)))))
  replace z1 : IsZip g1 z TI TO .ellipsis := z1
  replace m1 : Heap.SameBut z hp g1 := m1
  refine wpAny_bind ?_
  simp only [List.zipIdx_cons,List.zipIdx_nil,List.forIn_cons,List.forIn_nil]
  have t1 : S1 k g1 := D1.frame _ _ _ s1 fun c hc o e => m1.extBut _ _ (D.b1 c hc).1 e
  have u1 : S2 k g1 := D2.frame _ _ _ s2 fun c hc o e => m1.extBut _ _ (D.b2 c hc).1 e
  rcases ke with ke | ⟨k1,ke⟩
  · subst ke
    refine wpAny_bind (wpAny_bind (wpAny_onRaise (show wpAny _ _ (Builtin.SmallTypes.nextOf (.ref i1) >>= _) _ _ _ from wpAny_bind (D1.done ⟨g1,g,d,tk0,os⟩ _ _ t1 fun g2 e m2 he => ?_))))
    obtain ⟨oe,he1,he2⟩ := he
    replace m2 : Heap.ExtBut i1 g1 g2 := m2
    have z2 : IsZip g2 z TI TO .ellipsis := m2 _ _ (Ne.symm D.c1.1) z1
    have ez : e ≠ z := fun x => by subst x; rw [z2] at he1; cases he1; simp at he2
    exact wpAny_setField_rec z2 (by simp) fun g3 _ m3 => q g3 e _ (fun c o n1 _ n3 _ x => m3.extBut _ _ n1 (m2 _ _ n3 (m1.extBut _ _ n1 x))) ⟨oe,m3.extBut _ _ ez he1,he2⟩
  · refine wpAny_bind (wpAny_bind (wpAny_onRaise (show wpAny _ _ (Builtin.SmallTypes.nextOf (.ref i1) >>= _) _ _ _ from wpAny_bind (D1.item k ⟨g1,g,d,tk0,os⟩ _ _ k1 t1 fun x g2 tk1 px t2 m2 => wpAny_pure ?_))))
    replace m2 : Heap.SameBut i1 g1 g2 := m2
    have o2 : IsPair g2 TO a b := m2.extBut _ _ (Ne.symm D.c1.2.1) (m1.extBut _ _ D.a2 hO)
    refine wpAny_bind (wpAny_seqItems o2 rfl (wpAny_bind (wpAny_updateSeq_pair o2 fun g3 o3 m3 => ?_)))
    replace m3 : Heap.SameBut TO g2 g3 := m3
    have u3 : S2 k g3 := D2.frame _ _ _ u1 fun c hc o e => m3.extBut _ _ (D.b2 c hc).2.1 (m2.extBut _ _ (D.b2 c hc).2.2 e)
    rw [ke] at u3
    refine wpAny_bind (wpAny_letGo (wpAny_pure ?_))
    refine wpAny_bind (wpAny_bind (wpAny_onRaise (show wpAny _ _ (Builtin.SmallTypes.nextOf (.ref i2) >>= _) _ _ _ from wpAny_bind (D2.done ⟨g3,g,d,tk1,os⟩ _ _ u3 fun g4 e m4 he => ?_))))
    obtain ⟨oe,he1,he2⟩ := he
    replace m4 : Heap.ExtBut i2 g3 g4 := m4
    have z4 : IsZip g4 z TI TO .ellipsis := m4 _ _ (Ne.symm D.c2.1) (m3.extBut _ _ (Ne.symm D.a2) (m2.extBut _ _ (Ne.symm D.c1.1) z1))
    have ez : e ≠ z := fun x => by subst x; rw [z4] at he1; cases he1; simp at he2
    exact wpAny_setField_rec z4 (by simp) fun g5 _ m5 => q g5 e _ (fun c o n1 n2 n3 n4 x => m5.extBut _ _ n1 (m4 _ _ n4 (m3.extBut _ _ n2 (m2.extBut _ _ n3 (m1.extBut _ _ n1 x))))) ⟨oe,m5.extBut _ _ ez he1,he2⟩
theorem Jw8 {Q : Option Value → Shared → Prop} (D1 : Draws prog w A.in1 i1 fp1 n1 P1 S1) (D2 : Draws prog w A.in1 i2 fp2 n2 P2 S2) (D : Apart z TI TO i1 i2 fp1 fp2) (hZ : IsZip s.heap z TI TO .none) (hI : IsPair s.heap TI (.ref i1) (.ref i2)) (hO : IsPair s.heap TO a b)
    (s1 : S1 k s.heap) (s2 : S2 k s.heap) (k1 : k < n1) (k2 : k < n2)
    (q : ∀ x y h' tk,P1 k x → P2 k y → IsZip h' z TI TO (rawInt s.heap.objs.size) → IsPair h' TO x y → S1 (k + 1) h' → S2 (k + 1) h' → IsPair h' s.heap.objs.size x y → h'.objs.size = s.heap.objs.size + 1 →
      (∀ c o,c ≠ z → c ≠ TO → c ≠ i1 → c ≠ i2 → s.heap.get? c = some o → h'.get? c = some o) → Q (some (.ref s.heap.objs.size)) { s with heap := h',toks := tk }) :
    wpAny (model prog w) A (pyNext (.ref z)) Q E s := by
  have T : s.TypeIs (.ref z) "zip" := ⟨_,hZ,rfl⟩
  unfold pyNext
  exact wpAny_bind (wpAny_attempt (wpAny_callSpecial?_slot (name := Str.ofString "__next__") T PySem.F.slot_zip_next (wpAny_call_entry PySem.F.slot_zip_next T PySem.F.entry_zip_next (zipI D1 D2 D hZ hI hO s1 s2 k1 k2 fun x y h' tk c1 c2 c3 c4 c5 c6 c7 c8 c9 => wpAny_pure (q x y h' tk c1 c2 c3 c4 c5 c6 c7 c8 c9)) (PySem.F.args_zip_next_1 _))))
theorem Jw6 {Q : Option Value → Shared → Prop} (D1 : Draws prog w A.in1 i1 fp1 n1 P1 S1) (D2 : Draws prog w A.in1 i2 fp2 n2 P2 S2) (D : Apart z TI TO i1 i2 fp1 fp2) (hZ : IsZip s.heap z TI TO .none) (hI : IsPair s.heap TI (.ref i1) (.ref i2)) (hO : IsPair s.heap TO a b)
    (s1 : S1 k s.heap) (s2 : S2 k s.heap) (ke : k = n1 ∨ (k < n1 ∧ k = n2))
    (q : ∀ h' tk,(∀ c o,c ≠ z → c ≠ TO → c ≠ i1 → c ≠ i2 → s.heap.get? c = some o → h'.get? c = some o) → Q none { s with heap := h',toks := tk }) : wpAny (model prog w) A (pyNext (.ref z)) Q E s := by
  have T : s.TypeIs (.ref z) "zip" := ⟨_,hZ,rfl⟩
  unfold pyNext
  refine wpAny_bind (wpAny_attempt (wpAny_callSpecial?_slot (name := Str.ofString "__next__") T PySem.F.slot_zip_next (wpAny_call_entry PySem.F.slot_zip_next T PySem.F.entry_zip_next (zipE D1 D2 D hZ hI hO s1 s2 ke fun h' e tk kk he => ?_) (PySem.F.args_zip_next_1 _))))
  obtain ⟨o,e1,e2⟩ := he
  exact wpAny_bind (wpAny_isInstance (T := "StopIteration") (b := true) ⟨o,e1,e2⟩ isSubtype_stop (wpAny_pure (q h' tk kk)))
end
abbrev zt1 (h : Heap) (l1 : Addr) : Heap := h.push { cls := .type "tuple_iterator",data := .fields #[.ref l1,.int 0 0] }
abbrev zt2 (h : Heap) (l1 l2 : Addr) : Heap := (zt1 h l1).push { cls := .type "tuple_iterator",data := .fields #[.ref l2,.int 0 0] }
abbrev zt3 (h : Heap) (l1 l2 : Addr) : Heap := (zt2 h l1 l2).push { cls := .type "tuple",data := .seq #[.ref h.objs.size,.ref (zt1 h l1).objs.size] }
abbrev zt4 (h : Heap) (l1 l2 : Addr) : Heap := (zt3 h l1 l2).push { cls := .type "tuple",data := .seq #[.none,.none] }
abbrev zt5 (h : Heap) (l1 l2 : Addr) : Heap := (zt4 h l1 l2).push { cls := .type "zip",data := .fields #[.none,.bool false,.bool false,.ref (zt2 h l1 l2).objs.size,.ref (zt3 h l1 l2).objs.size] }
theorem Jw9 (l1 l2 : Addr) (xs ys : Array Value) : Meets (Builtin.«zip.__new__» ⟨[.type "zip",.ref l1,.ref l2],[]⟩) (fun _ R s => s.heap.IsTuple l1 xs ∧ s.heap.IsTuple l2 ys ∧ R (.ok (.ret (.ref (zt4 s.heap l1 l2).objs.size))) { s with heap := zt5 s.heap l1 l2 }) :=
  .of_wp fun prog w A R s h => by
    obtain ⟨hp,g,d,tk,os⟩ := s
    obtain ⟨e1,e2,h⟩ := h
    have sub := sub_zip
    have T1 : Heap.IsTuple (Shared.heap ⟨hp,g,d,tk,os⟩) l1 xs := e1
    have T2 : Heap.IsTuple (Shared.heap ⟨hp.push { cls := .type "tuple_iterator",data := .fields #[.ref l1,.int 0 0] },g,d,tk,os⟩) l2 ys := Heap.IsTuple.push e2 _
    wp_walk using wpAny_pyIter_tuple T1,wpAny_pyIter_tuple T2
    exact ⟨_,rfl,h⟩
theorem Jv8 {l1 l2 : Addr} {xs ys : Array Value} {Q : Value → Shared → Prop} (e1 : s.heap.IsTuple l1 xs) (e2 : s.heap.IsTuple l2 ys)
    (q : ∀ h',IsZip h' (s.heap.objs.size + 4) (s.heap.objs.size + 2) (s.heap.objs.size + 3) .none → IsPair h' (s.heap.objs.size + 2) (.ref s.heap.objs.size) (.ref (s.heap.objs.size + 1)) → IsPair h' (s.heap.objs.size + 3) .none .none →
      h'.IsTupleIter s.heap.objs.size l1 0 → h'.IsTupleIter (s.heap.objs.size + 1) l2 0 → (∀ c o,s.heap.get? c = some o → h'.get? c = some o) → Q (.ref (s.heap.objs.size + 4)) { s with heap := h' }) :
    wpAny (model prog w) A (call (.type "zip") [.ref l1,.ref l2]) Q E s := by
  refine callType_new PySem.F.called_zip (by decide) (PySem.F.typeCall_zip_2 _ _) (PySem.F.newCall_zip_2 _ _) (fun obj => PySem.F.args_object_init_3 obj _ _) PySem.F.entry_zip_new (Jw9 l1 l2 xs ys) ⟨e1,e2,?_⟩
  have z1 : (zt1 s.heap l1).objs.size = s.heap.objs.size + 1 := Heap.size_push ..
  have z2 : (zt2 s.heap l1 l2).objs.size = s.heap.objs.size + 2 := by rw [Heap.size_push,z1]
  have z3 : (zt3 s.heap l1 l2).objs.size = s.heap.objs.size + 3 := by rw [Heap.size_push,z2]
  have z4 : (zt4 s.heap l1 l2).objs.size = s.heap.objs.size + 4 := by rw [Heap.size_push,z3]
  have g5 : (zt5 s.heap l1 l2).get? (zt4 s.heap l1 l2).objs.size = some _ := Heap.get?_push_size _ rfl
  have g4 : (zt5 s.heap l1 l2).get? (zt3 s.heap l1 l2).objs.size = some _ := Heap.get?_push_of_some _ (Heap.get?_push_size _ rfl)
  have g3 : (zt5 s.heap l1 l2).get? (zt2 s.heap l1 l2).objs.size = some _ := Heap.get?_push_of_some _ (Heap.get?_push_of_some _ (Heap.get?_push_size _ rfl))
  have g2 : (zt5 s.heap l1 l2).get? (zt1 s.heap l1).objs.size = some _ := Heap.get?_push_of_some _ (Heap.get?_push_of_some _ (Heap.get?_push_of_some _ (Heap.get?_push_size _ rfl)))
  have g1 : (zt5 s.heap l1 l2).get? s.heap.objs.size = some _ := Heap.get?_push_of_some _ (Heap.get?_push_of_some _ (Heap.get?_push_of_some _ (Heap.get?_push_of_some _ (Heap.get?_push_size _ rfl))))
  have kk : ∀ c o,s.heap.get? c = some o → (zt5 s.heap l1 l2).get? c = some o := fun c o e => Heap.get?_push_of_some _ (Heap.get?_push_of_some _ (Heap.get?_push_of_some _ (Heap.get?_push_of_some _ (Heap.get?_push_of_some _ e))))
  show _ ∧ _
  rw [z2,z3,z4] at g5
  rw [z1,z2] at g3
  rw [z3] at g4
  rw [z1] at g2
  have Z : IsZip (zt5 s.heap l1 l2) (s.heap.objs.size + 4) (s.heap.objs.size + 2) (s.heap.objs.size + 3) .none := g5
  rw [z4]
  exact ⟨⟨_,Z,rfl⟩,q _ Z g3 g4 ⟨_,g1,rfl,rfl⟩ ⟨_,g2,rfl,rfl⟩ kk⟩
end
end HT
end
section
set_option Elab.async false
set_option maxRecDepth 10000
set_option linter.all false
namespace L2
open PySem PySem.Spec PyProof.Rows
def HB (L : Bool) (xs : List V) : HO := if L = true then .lst xs else .tup xs
theorem HB.inj {L : Bool} {xs ys : List V} (h : HB L xs = HB L ys) : xs = ys := by cases L <;> cases h <;> rfl
def Jol (L : Bool) (h : Heap) (it a : Addr) (i : Nat) : Prop := if L = true then h.IsListIter it a i else h.IsTupleIter it a i
def SeqB (L : Bool) (h : Heap) (a : Addr) (ws : Array Value) : Prop := if L = true then h.IsList a ws else h.IsTuple a ws
theorem Jw0 {prog : Program} {w : World} {A : Around} (L : Bool) (ha : A.handled = none) (it t : Addr) (ne : t ≠ it) (ws : Array Value) : Draws prog w A it [it,t] ws.size (fun i v => ws[i]? = some v) (fun i h => Jol L h it t i ∧ SeqB L h t ws) := by
  cases L with
  | true => exact Draws.list ha it t ne ws
  | false => exact HT.JBr ha it t ne ws
theorem Jol.at {L : Bool} {h h' : Heap} {it a : Addr} {i : Nat} (x : Jol L h it a i) (k : ∀ o,h.get? it = some o → h'.get? it = some o) : Jol L h' it a i := by
  cases L with
  | true => exact Heap.IsListIter.at x k
  | false => exact Heap.IsTupleIter.at x k
theorem Jol.obj {L : Bool} {h : Heap} {it a : Addr} {i : Nat} (x : Jol L h it a i) : ∃ o vs,h.get? it = some o ∧ o.data = .fields vs := by
  cases L with
  | true => obtain ⟨o,e,_,d⟩ := (show h.IsListIter it a i from x); exact ⟨o,_,e,d⟩
  | false => obtain ⟨o,e,_,d⟩ := (show h.IsTupleIter it a i from x); exact ⟨o,_,e,d⟩
theorem Inv.seqB {X : Cx} {pins : List (Addr × Obj)} {σ : St} {H : Hp} {s : Shared} {L : Bool} {a : Addr} {xs : List V} (I : Inv X pins σ H s) (h : H a = some (HB L xs)) : ∃ its : List Value,Vals xs its ∧ SeqB L s.heap a its.toArray := by
  cases L with
  | true => obtain ⟨its,rv,p,_⟩ := I.list (SqL.of h); exact ⟨its,rv,p.isList⟩
  | false => obtain ⟨its,rv,p,_⟩ := I.tuple (SqT.of h); exact ⟨its,rv,p⟩
theorem Jwa {z TI TO i1 i2 a b : Addr} (d1 : TI ≠ z) (d2 : TO ≠ z) (d3 : TI ≠ TO) (d4 : i1 ≠ z ∧ i1 ≠ TO ∧ i1 ≠ TI) (d5 : i2 ≠ z ∧ i2 ≠ TO ∧ i2 ≠ TI) (d6 : i1 ≠ i2) (na : a ∉ [z,TI,TO,i1,i2]) (nb : b ∉ [z,TI,TO,i1,i2]) : HT.Apart z TI TO i1 i2 [i1,a] [i2,b] where
  a1 := d1
  a2 := d2
  a3 := d3
  b1 := fun c hc => by
    simp only [List.mem_cons,List.not_mem_nil,or_false,not_or] at hc na
    rcases hc with rfl | rfl
    · exact ⟨d4.1,d4.2.1,d6⟩
    · exact ⟨na.1,na.2.2.1,na.2.2.2.2⟩
  b2 := fun c hc => by
    simp only [List.mem_cons,List.not_mem_nil,or_false,not_or] at hc nb
    rcases hc with rfl | rfl
    · exact ⟨d5.1,d5.2.1,Ne.symm d6⟩
    · exact ⟨nb.1,nb.2.2.1,nb.2.2.2.1⟩
  c1 := d4
  c2 := d5
  c3 := d6
section
variable {X : Cx}
end
end L2
end
section
set_option Elab.async false
set_option maxRecDepth 10000
set_option linter.all false
namespace L2
open PySem PySem.Spec PyProof.Rows
section
variable {k : Nat} {caps : List Nat} {σ : St} {g : TG} {tt : TT} {te : TE} {Q : VK} {H : Hp}
end
end L2
end
section
set_option Elab.async false
set_option maxRecDepth 100000
set_option linter.all false
namespace HT
open PySem PySem.Spec PyProof.Rows
section
variable {prog : Program} {w : World} {A : Around} {E : Value → Shared → Prop} {s : Shared}
theorem Jyy {x : Value} {Tx : String} {tp : Addr} {cs : List Value} {vs : List Bool} {dd : Option Addr} {n : Nat} {sl : Array (Option Value)} (ha : AnswersAll (fun s => s.TypeIs x Tx) x cs vs) :
    Meets (Builtin.«isinstance» ⟨[x,.ref tp],[]⟩) (fun _ R s => s.TypeIs x Tx ∧ s.heap.get? tp = some { cls := .type "tuple",dict := dd,data := .seq cs.toArray n,slots := sl } ∧ ∀ tk,R (.ok (.ret (.bool (vs.any id)))) { s with toks := tk }) :=
  fun prog w A R s hs => isinstance_outer (by
    obtain ⟨h,g,d,t,os⟩ := s
    obtain ⟨hx,htp,hq⟩ := hs
    have T2 : (⟨h,g,d,t,os⟩ : Shared).TypeIs (.ref tp) "tuple" := ⟨_,htp,rfl⟩
    have f1 := PySem.F.isi_sub_tuple
    repeat (any_goals first | assumption | wp_step)
    refine wpAny_arrayLoop ?_
    simp only [List.toList_toArray,Option.getD_some]
    refine isinstance_items (dep := 0) (fun _ tk q => q.toks tk) cs vs _ _ ha hx fun tk' => ?_
    cases hv : vs.any id with
    | true =>
      simp only [if_true]
      repeat (any_goals first | assumption | wp_step)
      exact hv ▸ hq tk'
    | false =>
      simp only [if_false,Bool.false_eq_true]
      repeat (any_goals first | assumption | wp_step)
      exact hv ▸ hq tk') (Shared.TypeIs.not_mainsLoader hs.1)
end
end HT
namespace L2
open PySem PySem.Spec PyProof.Rows
def isSeq : PyData → Bool
  | .list _ => true
  | .tuple _ => true
  | _ => false
def noDict : PyData → Bool
  | .dict _ => false
  | _ => true
theorem Jzu (T : String) (h : T = "tuple" ∨ T = "list") : typeOf (.type T) = pure (.type "type") := by rcases h with rfl | rfl <;> first | rfl | kernel_rfl
theorem Jhl {a b : String} (h : (a,b) ∈ [("int","tuple"),("int","list"),("bool","tuple"),("bool","list"),("str","tuple"),("str","list"),("NoneType","tuple"),("NoneType","list"),("list","tuple"),("tuple","list")]) : isSubtype (.type a) (.type b) = pure false := by
  simp only [List.mem_cons,List.not_mem_nil,or_false,Prod.mk.injEq] at h
  rcases h with ⟨rfl,rfl⟩ | ⟨rfl,rfl⟩ | ⟨rfl,rfl⟩ | ⟨rfl,rfl⟩ | ⟨rfl,rfl⟩ | ⟨rfl,rfl⟩ | ⟨rfl,rfl⟩ | ⟨rfl,rfl⟩ | ⟨rfl,rfl⟩ | ⟨rfl,rfl⟩ <;> (rw [isSubtype_type]; kernel_rfl)
theorem Jrm {a : String} (h : a = "tuple" ∨ a = "list") : isSubtype (.type a) (.type a) = pure true := by rcases h with rfl | rfl <;> (rw [isSubtype_type]; kernel_rfl)
section
variable {X : Cx}
theorem Jmu : Jdp X (.builtin "isinstance") (fun xs H Q => ∃ (N : Addr → Prop) (x : V) (d : PyData) (p : Addr),xs = [x,.ref p] ∧ H p = some (.tup [.ty "tuple",.ty "list"]) ∧ Tr N H x d ∧ noDict d = true ∧ Q (.bl (isSeq d)) H) := by
  intro pins s σ H xs us Q I r h
  obtain ⟨N,x,d,p,rfl,hp,t,nd,q⟩ := h
  obtain ⟨u,v,rfl,rx,rv⟩ := vals2 r
  cases (show v = Value.ref p from rv)
  obtain ⟨its,rt,pt,_⟩ := I.tuple (SqT.of hp)
  have ei : its = [.type "tuple",.type "list"] := by
    cases rt with
    | cons r1 rr =>
      cases rr with
      | cons r2 rn =>
        cases rn
        cases (show _ = Value.type "tuple" from r1)
        cases (show _ = Value.type "list" from r2)
        rfl
  subst ei
  obtain ⟨⟨c1,d1,x1,sl1⟩,ho,hc,n,hd⟩ := id pt
  simp only at hc hd
  subst hc hd
  have fin : ∀ (Tx : String) (vs : List Bool),AnswersAll (fun s => s.TypeIs u Tx) u [.type "tuple",.type "list"] vs → s.TypeIs u Tx → vs.any id = isSeq d → wpAny (model X.prog X.w) X.A (call (.builtin "isinstance") [u,.ref p]) (EP X pins σ Q) X.xe s := fun Tx vs ha hx e =>
    call_isinstance (HT.Jyy (cs := [.type "tuple",.type "list"]) (dd := d1) (n := n) (sl := sl1) ha) ⟨hx,ho,fun tk => ⟨.bl (isSeq d),H,I.tok tk,(by rw [e]; rfl),q⟩⟩
  have y1 := Jzu "tuple" (.inl rfl)
  have y2 := Jzu "list" (.inr rfl)
  cases t with
  | non =>
    cases (show u = Value.none from rx)
    exact fin "NoneType" [false,false] (.cons (Answers.of_false_none (by decide) y1 (Jhl (by decide))) (.cons (Answers.of_false_none (by decide) y2 (Jhl (by decide))) .nil)) rfl rfl
  | bl b =>
    cases (show u = Value.bool b from rx)
    exact fin "bool" [false,false] (.cons (Answers.of_false_bool (by decide) y1 (Jhl (by decide))) (.cons (Answers.of_false_bool (by decide) y2 (Jhl (by decide))) .nil)) rfl rfl
  | int i =>
    obtain ⟨t,rfl⟩ := rx
    exact fin "int" [false,false] (.cons (Answers.of_false_int (by decide) y1 (Jhl (by decide))) (.cons (Answers.of_false_int (by decide) y2 (Jhl (by decide))) .nil)) rfl rfl
  | str z =>
    obtain ⟨t,rfl⟩ := rx
    exact fin "str" [false,false] (.cons (Answers.of_false_str (by decide) y1 (Jhl (by decide))) (.cons (Answers.of_false_str (by decide) y2 (Jhl (by decide))) .nil)) rfl rfl
  | lst n1 h1 t1 =>
    cases rx
    obtain ⟨its,_,pl,_⟩ := I.list (SqL.of h1)
    exact fin "list" [false,true] (.cons (Answers.of_false_list (by decide) y1 (Jhl (by decide))) (.cons (Answers.of_true y2 (Jrm (.inr rfl))) .nil)) pl.isList.typeIs rfl
  | tup n1 h1 t1 =>
    cases rx
    obtain ⟨its,_,pl,_⟩ := I.tuple (SqT.of h1)
    exact fin "tuple" [true,false] (.cons (Answers.of_true y1 (Jrm (.inl rfl))) (.cons (Answers.of_false_tuple (by decide) y2 (Jhl (by decide))) .nil)) pl.typeIs rfl
  | dct _ _ => cases nd
end
end L2
end
section
set_option Elab.async false
set_option maxRecDepth 10000
set_option linter.all false
namespace L2
open PySem PySem.Spec PyProof.Rows
end L2
namespace Bc
open PySem PySem.Spec PyProof.Rows L2
def inD : PyData → Int → Bool
  | .tuple [.int a,.int b],n => decide (a ≤ n) && decide (n < b)
  | _,_ => false
def JBl (es : List PyData) (ns : List Int) : Bool := (es.zip ns).all fun p => inD p.1 p.2
def Jf3 : PyData → List Int → Bool
  | .tuple es,ns => JBl es ns
  | _,_ => false

structure Good (n : Nat) (ds : List PyData) : Prop where
  n1 : 1 ≤ n
  n3 : n ≤ 3
  le : ds.length ≤ Jsm (.int n)
  all : ds.all (boxD n) = true
theorem Good.most {n : Nat} {ds : List PyData} (g : Good n ds) : ds.length ≤ 20 := by
  have hw : n = 1 ∨ n = 2 ∨ n = 3 := by have := g.n1; have := g.n3; omega
  have := g.le
  rcases hw with rfl | rfl | rfl
  · exact this
  · exact Nat.le_trans this (by decide)
  · exact Nat.le_trans this (by decide)
theorem Good.heap {n : Nat} {ds : List PyData} (g : Good n ds) : JBk (.tuple [.int n,.list ds]) = true := by
  have n1 := g.n1
  have n3 := g.n3
  have e1 : Js1 (.int n) = true := decide_eq_true (by omega)
  have e3 : ds.all (Jvz (.int n)) = true := Jtx g.all fun d z => by
    obtain ⟨es,rfl,hel,hb⟩ := Jzl z
    have e0 : Jvz (.int n) (.tuple es) = (decide ((n : Int) = 1 ∨ (n : Int) = 2 ∨ (n : Int) = 3) && decide ((n : Int) = (es.length : Int)) && es.all Jkg) := rfl
    rw [e0,decide_eq_true (by omega),decide_eq_true (by omega),Jtx hb fun d z => (JBt z).2.2.2.2]
    rfl
  show (Js1 (.int n) && decide (ds.length ≤ Jsm (.int n)) && ds.all (Jvz (.int n))) = true
  rw [e1,e3,decide_eq_true g.le]
  rfl
end Bc
end
section
set_option Elab.async false
set_option maxRecDepth 10000
set_option linter.all false
namespace L2
open PySem PySem.Spec PyProof.Rows
section
variable {X : Cx} {K : PySem.W.Frag}
end
end L2
namespace Bc
open PySem PySem.Spec PyProof.Rows L2
def Jdz (w : Nat) : PyData → Int
  | .tuple es => (match es[w]? with | some (.tuple [.int a,.int _]) => a | _ => 0)
  | _ => 0
def Jcq (w : Nat) : PyData → Int
  | .tuple es => (match es[w]? with | some (.tuple [.int _,.int b]) => b | _ => 0)
  | _ => 0
end Bc
end
section
set_option Elab.async false
set_option maxRecDepth 10000
set_option linter.all false
namespace VS
open PySem PySem.Spec L2


inductive D where
  | non | bl (b : Bool) | int (i : Int) | str (x : Str) | ty (n : String)
  | tup (ds : List D) | lst (m : Bool) (ds : List D) | ref (i : Nat) | scr (ns : List Int) | emp

abbrev Mu := List (Option Addr)
def Live (μ : Mu) (a : Addr) : Prop := some a ∈ μ

structure Fr where
  K : PySem.W.Frag
  H0 : Hp
  N : Addr → Prop
  m0 : List Addr
def Fr.Ok (Γ : Fr) (m : Bool) (a : Addr) : Prop := (m = true → Γ.H0 a = none) ∧ (Γ.N a ∨ Γ.H0 a = none)

mutual
inductive VR (Γ : Fr) (μ : Mu) (H : Hp) : V → D → Prop
  | non : VR Γ μ H .non .non
  | bl (b : Bool) : VR Γ μ H (.bl b) (.bl b)
  | int (i : Int) : VR Γ μ H (.int i) (.int i)
  | str (x : Str) : VR Γ μ H (.str x) (.str x)
  | ty (n : String) : VR Γ μ H (.ty n) (.ty n)
  | tup {a : Addr} {xs : List V} {ds : List D} : H a = some (.tup xs) → VRs Γ μ H xs ds → VR Γ μ H (.ref a) (.tup ds)
  | lst {m : Bool} {a : Addr} {xs : List V} {ds : List D} : Γ.Ok m a → ¬ Live μ a → H a = some (.lst xs) → VRs Γ μ H xs ds → VR Γ μ H (.ref a) (.lst m ds)
  | ref {i : Nat} {v : V} : i < μ.length → (∀ a,μ[i]? = some (some a) → v = .ref a) → VR Γ μ H v (.ref i)
  | scrK {a : Addr} {ns : List Int} : (∀ H',SqL Γ.K H' a (ns.map V.int)) → VR Γ μ H (.ref a) (.scr ns)
  | scrR {a : Addr} {ns : List Int} {o : Obj} : ¬ Live μ a → H a = some (.frz o (.lst (ns.map V.int))) → VR Γ μ H (.ref a) (.scr ns)
  | emp {a : Addr} : ¬ Live μ a → H a = some (.dK []) → VR Γ μ H (.ref a) .emp
inductive VRs (Γ : Fr) (μ : Mu) (H : Hp) : List V → List D → Prop
  | nil : VRs Γ μ H [] []
  | cons {x : V} {d : D} {xs : List V} {ds : List D} : VR Γ μ H x d → VRs Γ μ H xs ds → VRs Γ μ H (x :: xs) (d :: ds)
end

structure Ext (μ : Mu) (H : Hp) (μ' : Mu) (H' : Hp) : Prop where
  keep : ∀ a o,H a = some o → ¬ Live μ a → H' a = some o ∧ ¬ Live μ' a
  tups : ∀ a xs,H a = some (.tup xs) → H' a = some (.tup xs)
  none : ∀ a,H' a = none → H a = none
  ids : ∀ (i : Nat) (a : Addr),i < μ.length → μ'[i]? = some (some a) → μ[i]? = some (some a)
  len : μ.length ≤ μ'.length
theorem Ext.refl (μ : Mu) (H : Hp) : Ext μ H μ H := ⟨fun _ _ h n => ⟨h,n⟩,fun _ _ h => h,fun _ h => h,fun _ _ _ h => h,Nat.le_refl _⟩
theorem Ext.trans {μ μ1 μ2 : Mu} {H H1 H2 : Hp} (a : Ext μ H μ1 H1) (b : Ext μ1 H1 μ2 H2) : Ext μ H μ2 H2 :=
  ⟨fun c o h n => let ⟨x,y⟩ := a.keep c o h n; b.keep c o x y,fun c xs h => b.tups c xs (a.tups c xs h),fun c h => a.none c (b.none c h),fun i c hi h => a.ids i c hi (b.ids i c (Nat.lt_of_lt_of_le hi a.len) h),Nat.le_trans a.len b.len⟩

section
variable {Γ : Fr} {μ μ' : Mu} {H H' : Hp}
mutual
theorem VR.ext (e : Ext μ H μ' H') : ∀ {v : V} {d : D},VR Γ μ H v d → VR Γ μ' H' v d
  | _,_,.non => .non
  | _,_,.bl b => .bl b
  | _,_,.int i => .int i
  | _,_,.str x => .str x
  | _,_,.ty n => .ty n
  | _,_,.tup h t => .tup (e.tups _ _ h) (VRs.ext e t)
  | _,_,.lst o n h t => .lst o (e.keep _ _ h n).2 (e.keep _ _ h n).1 (VRs.ext e t)
  | _,_,.ref hi f => .ref (Nat.lt_of_lt_of_le hi e.len) fun a q => f a (e.ids _ _ hi q)
  | _,_,.scrK h => .scrK h
  | _,_,.scrR n h => .scrR (e.keep _ _ h n).2 (e.keep _ _ h n).1
  | _,_,.emp n h => .emp (e.keep _ _ h n).2 (e.keep _ _ h n).1
theorem VRs.ext (e : Ext μ H μ' H') : ∀ {vs : List V} {ds : List D},VRs Γ μ H vs ds → VRs Γ μ' H' vs ds
  | _,_,.nil => .nil
  | _,_,.cons r t => .cons (VR.ext e r) (VRs.ext e t)
end
theorem VRs.length : ∀ {xs : List V} {ds : List D},VRs Γ μ H xs ds → xs.length = ds.length
  | _,_,.nil => rfl
  | _,_,.cons _ t => by rw [List.length_cons,List.length_cons,VRs.length t]
theorem VRs.append : ∀ {xs ys : List V} {ds es : List D},VRs Γ μ H xs ds → VRs Γ μ H ys es → VRs Γ μ H (xs ++ ys) (ds ++ es)
  | _,_,_,_,.nil,t => t
  | _,_,_,_,.cons r s,t => .cons r (VRs.append s t)
theorem VRs.take : ∀ {xs : List V} {ds : List D} (n : Nat),VRs Γ μ H xs ds → VRs Γ μ H (xs.take n) (ds.take n)
  | _,_,0,_ => .nil
  | _,_,_ + 1,.nil => .nil
  | _,_,n + 1,.cons r t => .cons r (VRs.take n t)
theorem VRs.drop : ∀ {xs : List V} {ds : List D} (n : Nat),VRs Γ μ H xs ds → VRs Γ μ H (xs.drop n) (ds.drop n)
  | _,_,0,r => r
  | _,_,_ + 1,.nil => .nil
  | _,_,n + 1,.cons _ t => VRs.drop n t
theorem VRs.get : ∀ {xs : List V} {ds : List D} {i : Nat} {d : D},VRs Γ μ H xs ds → ds[i]? = some d → ∃ x,xs[i]? = some x ∧ VR Γ μ H x d
  | _,_,_,_,.nil,h => by simp at h
  | _,_,0,_,.cons r _,h => by simp at h; subst h; exact ⟨_,rfl,r⟩
  | _,_,i + 1,d,.cons _ t,h => by
    obtain ⟨x,h1,h2⟩ := VRs.get (i := i) (d := d) t (by simpa using h)
    exact ⟨x,by simpa using h1,h2⟩
theorem VRs.set {x : V} {d : D} (r : VR Γ μ H x d) : ∀ {xs : List V} {ds : List D} (i : Nat),VRs Γ μ H xs ds → VRs Γ μ H (xs.set i x) (ds.set i d)
  | _,_,_,.nil => .nil
  | _,_,0,.cons _ t => .cons r t
  | _,_,i + 1,.cons q t => .cons q (VRs.set r i t)
theorem VRs.eraseIdx : ∀ {xs : List V} {ds : List D} (i : Nat),VRs Γ μ H xs ds → VRs Γ μ H (xs.eraseIdx i) (ds.eraseIdx i)
  | _,_,_,.nil => .nil
  | _,_,0,.cons _ t => t
  | _,_,i + 1,.cons q t => .cons q (VRs.eraseIdx i t)
theorem VRs.reverse : ∀ {xs : List V} {ds : List D},VRs Γ μ H xs ds → VRs Γ μ H xs.reverse ds.reverse
  | _,_,.nil => .nil
  | _,_,.cons r t => by rw [List.reverse_cons,List.reverse_cons]; exact (VRs.reverse t).append (.cons r .nil)
theorem VRs.rep {xs : List V} {ds : List D} (h : VRs Γ μ H xs ds) : ∀ n : Nat,VRs Γ μ H (List.replicate n xs).flatten (List.replicate n ds).flatten
  | 0 => .nil
  | n + 1 => by rw [List.replicate_succ,List.replicate_succ,List.flatten_cons,List.flatten_cons]; exact h.append (VRs.rep h n)
theorem VRs.ints : ∀ (ns : List Int),VRs Γ μ H (ns.map V.int) (ns.map D.int)
  | [] => .nil
  | n :: r => .cons (.int n) (VRs.ints r)
theorem VRs.Jnv : ∀ {xs : List V} {ns : List Int},VRs Γ μ H xs (ns.map D.int) → xs = ns.map V.int
  | _,[],.nil => rfl
  | _,n :: r,.cons q t => by cases q; rw [List.map_cons,VRs.Jnv t]
end

abbrev Env := List (Option D)
abbrev Store := List (Option (List D))
structure Rep (Γ : Fr) (μ : Mu) (σ : St) (H : Hp) (env : Env) (S : Store) : Prop where
  vals : ∀ (i : Nat) (d : D),env[i]? = some (some d) → ∃ v,σ[i]? = some (some v) ∧ VR Γ μ H v d
  len : σ.length = env.length
  sto : ∀ (i : Nat) (ds : List D),S[i]? = some (some ds) → ∃ a xs,μ[i]? = some (some a) ∧ H a = some (.lst xs) ∧ VRs Γ μ H xs ds
  liv : ∀ (i : Nat) (a : Addr),μ[i]? = some (some a) → ∃ ds,S[i]? = some (some ds)
  inj : ∀ (i j : Nat) (a : Addr),μ[i]? = some (some a) → μ[j]? = some (some a) → i = j
  slen : S.length = μ.length
  ent : Ext (Γ.m0.map some) Γ.H0 μ H
  new : ∀ (i : Nat) (a : Addr),Γ.m0.length ≤ i → μ[i]? = some (some a) → Γ.H0 a = none

section
variable {Γ : Fr} {μ μ' : Mu} {σ σ2 : St} {H H' : Hp} {env env2 : Env} {S S' : Store}
theorem Rep.live (R : Rep Γ μ σ H env S) {a : Addr} (h : Live μ a) : ∃ xs,H a = some (.lst xs) := by
  obtain ⟨i,hi⟩ := List.mem_iff_getElem?.mp h
  obtain ⟨ds,hs⟩ := R.liv i a hi
  obtain ⟨b,xs,h1,h2,_⟩ := R.sto i ds hs
  rw [hi] at h1; cases h1
  exact ⟨xs,h2⟩
theorem Rep.dead (R : Rep Γ μ σ H env S) {p : Addr} (h : H p = none) : ¬ Live μ p := fun z => by
  obtain ⟨xs,e⟩ := R.live z
  rw [h] at e; cases e
theorem Rep.fresh (R : Rep Γ μ σ H env S) {p : Addr} (h : H p = none) : Γ.H0 p = none := R.ent.none p h
theorem Rep.ok (R : Rep Γ μ σ H env S) {p : Addr} (h : H p = none) (m : Bool) : Γ.Ok m p := ⟨fun _ => R.fresh h,.inr (R.fresh h)⟩
theorem Rep.grow (R : Rep Γ μ σ H env S) (e : Same H H') : Rep Γ μ σ H' env S ∧ Ext μ H μ H' := by
  have x : Ext μ H μ H' := ⟨fun a o h n => ⟨e a o h,n⟩,fun a xs h => e a _ h,fun a h => e.free h,fun _ _ _ h => h,Nat.le_refl _⟩
  refine ⟨⟨fun i d h => ?_,R.len,fun i ds h => ?_,R.liv,R.inj,R.slen,R.ent.trans x,R.new⟩,x⟩
  · obtain ⟨v,h1,h2⟩ := R.vals i d h
    exact ⟨v,h1,h2.ext x⟩
  · obtain ⟨a,xs,h1,h2,h3⟩ := R.sto i ds h
    exact ⟨a,xs,h1,e _ _ h2,h3.ext x⟩
theorem Rep.back (R : Rep Γ μ σ H env S) (x : Ext μ H μ' H') (R2 : Rep Γ μ' σ2 H' env2 S') : Rep Γ μ' σ H' env S' :=
  ⟨fun i d h => let ⟨v,h1,h2⟩ := R.vals i d h; ⟨v,h1,h2.ext x⟩,R.len,R2.sto,R2.liv,R2.inj,R2.slen,R2.ent,R2.new⟩
theorem Rep.setv (R : Rep Γ μ σ H env S) (i : Nat) {v : V} {d : D} (r : VR Γ μ H v d) : Rep Γ μ (σ.set i (some v)) H (env.set i (some d)) S := by
  refine ⟨fun j e h => ?_,by rw [List.length_set,List.length_set]; exact R.len,R.sto,R.liv,R.inj,R.slen,R.ent,R.new⟩
  by_cases hj : i = j
  · subst hj
    have hl : i < env.length := by
      have := (List.getElem?_eq_some_iff.mp h).1
      rw [List.length_set] at this; exact this
    rw [List.getElem?_set_self hl] at h
    cases h
    exact ⟨v,List.getElem?_set_self (by rw [R.len]; exact hl),r⟩
  · rw [List.getElem?_set_ne hj] at h ⊢
    exact R.vals j e h
theorem Rep.laid (R : Rep Γ μ σ H env S) {p : Addr} {xs : List V} {ds : List D} (hp : H p = none) (r : VRs Γ μ H xs ds) :
    Rep Γ (μ ++ [some p]) σ (upd H p (.lst xs)) env (S ++ [some ds]) ∧ Ext μ H (μ ++ [some p]) (upd H p (.lst xs)) := by
  have ne : ∀ a o,H a = some o → a ≠ p := fun a o h z => by rw [z,hp] at h; cases h
  have x : Ext μ H (μ ++ [some p]) (upd H p (.lst xs)) := by
    refine ⟨fun a o h n => ⟨by rw [Ja5 (ne a o h)]; exact h,fun z => ?_⟩,fun a ys h => by rw [Ja5 (ne a _ h)]; exact h,fun a h => ?_,fun i a hi h => ?_,by rw [List.length_append]; omega⟩
    · rcases List.mem_append.mp z with z | z
      · exact n z
      · have z' : a = p := by simpa using z
        exact ne a o h z'
    · by_cases ha : a = p
      · rw [ha,Ja6] at h; cases h
      · rw [Ja5 ha] at h; exact h
    · rw [List.getElem?_append_left hi] at h; exact h
  have idx : ∀ i a,(μ ++ [some p])[i]? = some (some a) → (i < μ.length ∧ μ[i]? = some (some a)) ∨ (i = μ.length ∧ a = p) := fun i a h => by
    by_cases hi : i < μ.length
    · rw [List.getElem?_append_left hi] at h; exact .inl ⟨hi,h⟩
    · rw [List.getElem?_append_right (by omega)] at h
      have hl := (List.getElem?_eq_some_iff.mp h).1
      have hi' : i = μ.length := by simp at hl; omega
      subst hi'
      simp at h
      exact .inr ⟨rfl,h.symm⟩
  have no : ∀ a,μ[a]? = some (some p) → False := fun i h => R.dead hp (List.mem_of_getElem? h)
  refine ⟨⟨fun i d h => ?_,R.len,fun i es h => ?_,fun i a h => ?_,fun i j a h1 h2 => ?_,by rw [List.length_append,List.length_append,R.slen]; rfl,R.ent.trans x,fun i a hi h => ?_⟩,x⟩
  · obtain ⟨v,h1,h2⟩ := R.vals i d h
    exact ⟨v,h1,h2.ext x⟩
  · by_cases hi : i < S.length
    · rw [List.getElem?_append_left hi] at h
      obtain ⟨a,ys,h1,h2,h3⟩ := R.sto i es h
      exact ⟨a,ys,by rw [List.getElem?_append_left (by rw [← R.slen]; exact hi)]; exact h1,by rw [Ja5 (ne a _ h2)]; exact h2,h3.ext x⟩
    · rw [List.getElem?_append_right (by omega)] at h
      have hl := (List.getElem?_eq_some_iff.mp h).1
      have hi' : i = S.length := by simp at hl; omega
      subst hi'
      simp at h
      subst h
      exact ⟨p,xs,by rw [R.slen]; simp,Ja6,r.ext x⟩
  · rcases idx i a h with ⟨hi,h⟩ | ⟨rfl,rfl⟩
    · obtain ⟨ds',q⟩ := R.liv i a h
      exact ⟨ds',by rw [List.getElem?_append_left (by rw [R.slen]; exact hi)]; exact q⟩
    · exact ⟨ds,by rw [← R.slen]; simp⟩
  · rcases idx i a h1 with ⟨_,g1⟩ | ⟨e1,e2⟩
    · rcases idx j a h2 with ⟨_,g2⟩ | ⟨e3,e4⟩
      · exact R.inj i j a g1 g2
      · exact (no i (e4 ▸ g1)).elim
    · rcases idx j a h2 with ⟨_,g2⟩ | ⟨e3,_⟩
      · exact (no j (e2 ▸ g2)).elim
      · rw [e1,e3]
  · rcases idx i a h with ⟨_,h⟩ | ⟨rfl,rfl⟩
    · exact R.new i a hi h
    · exact R.fresh hp
theorem Rep.put (R : Rep Γ μ σ H env S) {i : Nat} {a : Addr} {xs : List V} {ds : List D} (hi : μ[i]? = some (some a)) (r : VRs Γ μ H xs ds) :
    Rep Γ μ σ (upd H a (.lst xs)) env (S.set i (some ds)) ∧ Ext μ H μ (upd H a (.lst xs)) := by
  have hl : Live μ a := List.mem_of_getElem? hi
  obtain ⟨ys,hy⟩ := R.live hl
  have x : Ext μ H μ (upd H a (.lst xs)) := by
    refine ⟨fun b o h n => ⟨?_,n⟩,fun b zs h => ?_,fun b h => ?_,fun _ _ _ h => h,Nat.le_refl _⟩
    · rw [Ja5 (fun z => n (by rw [z]; exact hl))]; exact h
    · rw [Ja5 (fun z => by rw [z,hy] at h; cases h)]; exact h
    · by_cases hb : b = a
      · rw [hb,Ja6] at h; cases h
      · rw [Ja5 hb] at h; exact h
  have hiS : i < S.length := by rw [R.slen]; exact (List.getElem?_eq_some_iff.mp hi).1
  refine ⟨⟨fun j d h => ?_,R.len,fun j es h => ?_,fun j b h => ?_,R.inj,by rw [List.length_set]; exact R.slen,R.ent.trans x,R.new⟩,x⟩
  · obtain ⟨v,h1,h2⟩ := R.vals j d h
    exact ⟨v,h1,h2.ext x⟩
  · by_cases hj : i = j
    · subst hj
      rw [List.getElem?_set_self hiS] at h
      cases h
      exact ⟨a,xs,hi,Ja6,r.ext x⟩
    · rw [List.getElem?_set_ne hj] at h
      obtain ⟨b,zs,h1,h2,h3⟩ := R.sto j es h
      refine ⟨b,zs,h1,?_,h3.ext x⟩
      rw [Ja5 (fun z => hj (R.inj i j a hi (by rw [← z]; exact h1)))]
      exact h2
  · by_cases hj : i = j
    · subst hj; exact ⟨ds,List.getElem?_set_self hiS⟩
    · rw [List.getElem?_set_ne hj]; exact R.liv j b h
end
end VS
end
section
set_option Elab.async false
set_option maxRecDepth 10000
set_option linter.all false
namespace VS
open PySem PySem.Spec L2

abbrev ESem := Env → Store → Option (D × Store)
abbrev ASem := Env → Store → Option (List D × Store)
abbrev TSem := Env → Store → Option (Bool × Store)
abbrev OSem := Env → Store → Option (Option Int × Store)
inductive Fl where | nx | brk | cnt | ret (d : D)
abbrev SSem := Env → Store → Option (Fl × Env × Store)
abbrev ISem := Env → Store → Option ((List D × List (Nat × List D)) × Store)
abbrev GSem := D → Env → Option Env

def eVar (i : Nat) : ESem := fun env S => (env[i]?.join).map fun d => (d,S)
def eC (d : D) : ESem := fun _ S => some (d,S)
def eOp (g : Store → D → D → Option D) (a b : ESem) : ESem := fun env S => (a env S).bind fun p => (b env p.2).bind fun q => (g q.2 p.1 q.1).map fun d => (d,q.2)
def eUn (g : Store → D → Option D) (a : ESem) : ESem := fun env S => (a env S).bind fun p => (g p.2 p.1).map fun d => (d,p.2)
def aNil : ASem := fun _ S => some ([],S)
def Jac (a : ESem) (r : ASem) : ASem := fun env S => (a env S).bind fun p => (r env p.2).bind fun q => some (p.1 :: q.1,q.2)
def eCB (g : Store → List D → Option D) (a : ASem) : ESem := fun env S => (a env S).bind fun p => (g p.2 p.1).map fun d => (d,p.2)
def eAnd (a b : ESem) : ESem := fun env S => (a env S).bind fun p => match p.1 with | .bl true => b env p.2 | .bl false => some (.bl false,p.2) | _ => none
def eNot (a : ESem) : ESem := fun env S => (a env S).bind fun p => match p.1 with | .bl c => some (.bl (!c),p.2) | _ => none
def Jqh (g g' : Store → D → D → Option D) (a b c : ESem) : ESem := fun env S => (a env S).bind fun p => (b env p.2).bind fun q => (g q.2 p.1 q.1).bind fun z => match z with
  | .bl true => (c env q.2).bind fun r => (g' r.2 q.1 r.1).map fun d => (d,r.2)
  | .bl false => some (.bl false,q.2)
  | _ => none
def tVal (a : ESem) : TSem := fun env S => (a env S).bind fun p => match p.1 with | .bl c => some (c,p.2) | _ => none
def tAnd (a b : TSem) : TSem := fun env S => (a env S).bind fun p => if p.1 = true then b env p.2 else some (false,p.2)
def tOr (a b : TSem) : TSem := fun env S => (a env S).bind fun p => if p.1 = true then some (true,p.2) else b env p.2
def tNot (a : TSem) : TSem := fun env S => (a env S).bind fun p => some (!p.1,p.2)
def Jhw : OSem := fun _ S => some (none,S)
def Jhv (a : ESem) : OSem := fun env S => (a env S).bind fun p => match p.1 with | .int i => some (some i,p.2) | _ => none
def eSl (g : Store → D → Option Int → Option Int → Option D) (a : ESem) (l h : OSem) : ESem := fun env S => (a env S).bind fun p => (l env p.2).bind fun q => (h env q.2).bind fun r => (g r.2 p.1 q.1 r.1).map fun d => (d,r.2)
def sSeq (a b : SSem) : SSem := fun env S => (a env S).bind fun p => match p.1 with | .nx => b p.2.1 p.2.2 | f => some (f,p.2.1,p.2.2)
def sNil : SSem := fun env S => some (.nx,env,S)
def Jr1 : SSem := fun _ _ => none
def sSet (i : Nat) (a : ESem) : SSem := fun env S => (a env S).bind fun p => some (.nx,env.set i (some p.1),p.2)
def sAsg (a : ESem) (g : GSem) : SSem := fun env S => (a env S).bind fun p => (g p.1 env).bind fun e => some (.nx,e,p.2)
def sExp (a : ESem) : SSem := fun env S => (a env S).bind fun p => some (.nx,env,p.2)
def sRet (a : ESem) : SSem := fun env S => (a env S).bind fun p => some (.ret p.1,env,p.2)
def sIf (c : TSem) (a b : SSem) : SSem := fun env S => (c env S).bind fun p => if p.1 = true then a env p.2 else b env p.2

inductive Pat where
  | nm (i : Nat) | tp (ps : List Pat)
mutual
def Pat.sem : Pat → D → Env → Option Env
  | .nm i,d,env => some (env.set i (some d))
  | .tp ps,.tup ds,env => semS ps ds env
  | .tp _,_,_ => none
def semS : List Pat → List D → Env → Option Env
  | [],[],env => some env
  | p :: ps,d :: ds,env => (Pat.sem p d env).bind fun e => semS ps ds e
  | _,_,_ => none
end
mutual
def Pat.raw (K : PySem.W.Frag) : Pat → TG
  | .nm i => Jv2 i
  | .tp ps => gTup K ps.length (rawS K ps)
def rawS (K : PySem.W.Frag) : List Pat → TGs
  | [] => gNil
  | p :: ps => Jza (Pat.raw K p) (rawS K ps)
end
mutual
def Pat.low (k : Nat) : Pat → Bool
  | .nm i => decide (i < k)
  | .tp ps => lowS k ps
def lowS (k : Nat) : List Pat → Bool
  | [] => true
  | p :: ps => Pat.low k p && lowS k ps
end
mutual
theorem Pat.mono (K : PySem.W.Frag) : ∀ (p : Pat) (x : V) (σ : St) (H : Hp) (Q Q' : St → Hp → Prop),(∀ σ' H',Q σ' H' → Q' σ' H') → p.raw K x σ H Q → p.raw K x σ H Q'
  | .nm i,x,σ,H,Q,Q',f,h => by rw [Pat.raw] at h ⊢; exact f _ _ h
  | .tp ps,x,σ,H,Q,Q',f,h => by rw [Pat.raw] at h ⊢; obtain ⟨a,xs,e,hs,hl,q⟩ := h; exact ⟨a,xs,e,hs,hl,Jyl K ps xs σ H Q Q' f q⟩
theorem Jyl (K : PySem.W.Frag) : ∀ (ps : List Pat) (x : List V) (σ : St) (H : Hp) (Q Q' : St → Hp → Prop),(∀ σ' H',Q σ' H' → Q' σ' H') → rawS K ps x σ H Q → rawS K ps x σ H Q'
  | [],x,σ,H,Q,Q',f,h => by rw [rawS] at h ⊢; exact ⟨h.1,f _ _ h.2⟩
  | p :: ps,x,σ,H,Q,Q',f,h => by rw [rawS] at h ⊢; obtain ⟨v,r,e,q⟩ := h; exact ⟨v,r,e,Pat.mono K p v σ H _ _ (fun σ1 H1 z => Jyl K ps r σ1 H1 Q Q' f z) q⟩
end
mutual
theorem Pat.Jy3 (K : PySem.W.Frag) {k : Nat} : ∀ (p : Pat),p.low k = true → Low k (p.raw K)
  | .nm i,h => by rw [Pat.raw]; rw [Pat.low] at h; exact Ju6 (of_decide_eq_true h)
  | .tp ps,h => by rw [Pat.raw]; rw [Pat.low] at h; exact Jyo (Jwz K ps h)
theorem Jwz (K : PySem.W.Frag) {k : Nat} : ∀ (ps : List Pat),lowS k ps = true → LowS k (rawS K ps)
  | [],_ => by rw [rawS]; exact Jyp
  | p :: ps,h => by
    rw [rawS]
    rw [lowS,Bool.and_eq_true] at h
    exact Ju7 (Pat.Jy3 K p h.1) (Jwz K ps h.2) (Pat.mono K p) (Jyl K ps)
end
theorem Jpq : ∀ {ps : List Pat} {ds : List D} {env env' : Env},semS ps ds env = some env' → ds.length = ps.length
  | [],[],_,_,_ => rfl
  | [],_ :: _,_,_,h => by simp [semS] at h
  | _ :: _,[],_,_,h => by simp [semS] at h
  | p :: ps,d :: ds,env,env',h => by
    rw [semS] at h
    cases e1 : p.sem d env with
    | none => rw [e1] at h; cases h
    | some env1 =>
      rw [e1] at h
      rw [List.length_cons,List.length_cons,Jpq (show semS ps ds env1 = some env' from h)]
mutual
theorem Pat.run {Γ : Fr} {μ : Mu} {H : Hp} {S : Store} (K : PySem.W.Frag) : ∀ (p : Pat) {v : V} {d : D} {σ : St} {env env' : Env} {Q : St → Hp → Prop},Rep Γ μ σ H env S → VR Γ μ H v d → p.sem d env = some env' → (∀ σ',Rep Γ μ σ' H env' S → Q σ' H) → p.raw K v σ H Q
  | .nm i,v,d,σ,env,env',Q,R,r,e,q => by
    rw [Pat.raw]
    rw [Pat.sem] at e
    cases e
    exact q _ (R.setv i r)
  | .tp ps,v,d,σ,env,env',Q,R,r,e,q => by
    rw [Pat.raw]
    cases r with
    | @tup b xs ds hb rs =>
      rw [Pat.sem] at e
      obtain ⟨hl,w⟩ := runS K ps R rs e q
      exact ⟨b,xs,rfl,SqT.of hb,hl,w⟩
    | _ => simp [Pat.sem] at e
theorem runS {Γ : Fr} {μ : Mu} {H : Hp} {S : Store} (K : PySem.W.Frag) : ∀ (ps : List Pat) {vs : List V} {ds : List D} {σ : St} {env env' : Env} {Q : St → Hp → Prop},Rep Γ μ σ H env S → VRs Γ μ H vs ds → semS ps ds env = some env' → (∀ σ',Rep Γ μ σ' H env' S → Q σ' H) → vs.length = ps.length ∧ rawS K ps vs σ H Q
  | [],vs,ds,σ,env,env',Q,R,r,e,q => by
    rw [rawS]
    cases r with
    | nil => rw [semS] at e; cases e; exact ⟨rfl,rfl,q σ R⟩
    | cons _ _ => simp [semS] at e
  | p :: ps,vs,ds,σ,env,env',Q,R,r,e,q => by
    rw [rawS]
    cases r with
    | nil => simp [semS] at e
    | @cons y d ys ds' r1 r2 =>
      rw [semS] at e
      cases e1 : p.sem d env with
      | none => rw [e1] at e; cases e
      | some env1 =>
        rw [e1] at e
        have e' : semS ps ds' env1 = some env' := e
        have hl : ys.length = ps.length := by rw [r2.length]; exact Jpq e'
        exact ⟨by rw [List.length_cons,List.length_cons,hl],y,ys,rfl,Pat.run K p R r1 e1 fun σ1 R1 => (runS K ps R1 r2 e' q).2⟩
end
def calm (w : List (Nat × List D)) (S : Store) : Prop := ∀ p ∈ w,S[p.1]? = some (some p.2)
open Classical in
noncomputable def loop (w : List (Nat × List D)) (g : GSem) (b : SSem) : List D → SSem
  | [],env,S => if calm w S then some (.nx,env,S) else none
  | d :: r, env, S => if calm w S then (g d env).bind fun e => (b e S).bind fun p => match p.1 with
      | .nx => loop w g b r p.2.1 p.2.2
      | .cnt => loop w g b r p.2.1 p.2.2
      | .brk => some (.nx,p.2.1,p.2.2)
      | .ret d => some (.ret d,p.2.1,p.2.2)
    else none
noncomputable def sFor (it : ISem) (g : GSem) (b : SSem) : SSem := fun env S => (it env S).bind fun p => loop p.1.2 g b p.1.1 env p.2
def capE (k : Nat) (caps : List Nat) (env : Env) : Env := List.replicate k none ++ caps.map fun j => (env[j]?).join
open Classical in
noncomputable def Jf0 (w : List (Nat × List D)) (e0 : Env) (g : GSem) (t : TSem) (e : ESem) : List D → List D → Store → Option (List D × Store)
  | [],ys,S => if calm w S ∧ ys.length ≤ 1000000 then some (ys,S) else none
  | d :: r, ys, S => if calm w S ∧ ys.length ≤ 1000000 then (g d e0).bind fun e1 => (t e1 S).bind fun p =>
      if p.1 = true then (e e1 p.2).bind fun q => Jf0 w e0 g t e r (ys ++ [q.1]) q.2 else Jf0 w e0 g t e r ys p.2
    else none
noncomputable def Jcs (k : Nat) (caps : List Nat) (it : ISem) (g : GSem) (t : TSem) (e : ESem) : ASem := fun env S => (it env S).bind fun p => Jf0 p.1.2 (capE k caps env) g t e p.1.1 [] p.2
def tYes : TSem := fun _ S => some (true,S)
def eFrz (a : ASem) : ESem := fun env S => (a env S).bind fun p => some (.lst true p.1,p.2)
def eSto (a : ASem) : ESem := fun env S => (a env S).bind fun p => some (.ref p.2.length,p.2 ++ [some p.1])
def eTup (a : ASem) : ESem := fun env S => (a env S).bind fun p => some (.tup p.1,p.2)

def wpE (K : PySem.W.Frag) (f : ESem) : TE := fun σ H Q => ∃ Γ μ env S d S',Γ.K = K ∧ Rep Γ μ σ H env S ∧ f env S = some (d,S') ∧ ∀ v μ' H',Ext μ H μ' H' → Rep Γ μ' σ H' env S' → VR Γ μ' H' v d → Q v H'
def wpA (K : PySem.W.Frag) (f : ASem) : TA := fun σ H Q => ∃ Γ μ env S d S',Γ.K = K ∧ Rep Γ μ σ H env S ∧ f env S = some (d,S') ∧ ∀ v μ' H',Ext μ H μ' H' → Rep Γ μ' σ H' env S' → VRs Γ μ' H' v d → Q v H'
def wpT (K : PySem.W.Frag) (f : TSem) : TT := fun σ H Q => ∃ Γ μ env S b S',Γ.K = K ∧ Rep Γ μ σ H env S ∧ f env S = some (b,S') ∧ ∀ μ' H',Ext μ H μ' H' → Rep Γ μ' σ H' env S' → Q b H'
def wpO (K : PySem.W.Frag) (f : OSem) : TO := fun σ H Q => ∃ Γ μ env S b S',Γ.K = K ∧ Rep Γ μ σ H env S ∧ f env S = some (b,S') ∧ ∀ μ' H',Ext μ H μ' H' → Rep Γ μ' σ H' env S' → Q b H'
def FlQ (Γ : Fr) (μ : Mu) (E : Ends) (σ : St) (H : Hp) : Fl → Prop
  | .nx => E.nx σ H
  | .brk => E.bk σ H
  | .cnt => E.ct σ H
  | .ret d => ∀ v,VR Γ μ H v d → E.rt v H
def wpS (K : PySem.W.Frag) (f : SSem) : TS := fun E σ H => ∃ Γ μ env S fl env' S',Γ.K = K ∧ Rep Γ μ σ H env S ∧ f env S = some (fl,env',S') ∧ ∀ μ' σ' H',Ext μ H μ' H' → Rep Γ μ' σ' H' env' S' → FlQ Γ μ' E σ' H' fl

structure ItOk (Γ : Fr) (μ : Mu) (H : Hp) (J : It) (ds : List D) (w : List (Nat × List D)) : Prop where
  step : ∀ (i : Nat) (d : D) (μ' : Mu) (H' : Hp) (σ' : St) (env' : Env) (S' : Store),ds[i]? = some d → Ext μ H μ' H' → Rep Γ μ' σ' H' env' S' → calm w S' → J.go i H' ∧ ∀ x H'',J.yld i H' x H'' → Same H' H'' ∧ VR Γ μ' H'' x d
  stop : ∀ (μ' : Mu) (H' : Hp) (σ' : St) (env' : Env) (S' : Store),Ext μ H μ' H' → Rep Γ μ' σ' H' env' S' → calm w S' → J.stop ds.length H'
def wpI (K : PySem.W.Frag) (f : ISem) : TI := fun σ H R => ∃ Γ μ env S ds w S',Γ.K = K ∧ Rep Γ μ σ H env S ∧ f env S = some ((ds,w),S') ∧ ∀ J μ' H',Ext μ H μ' H' → Rep Γ μ' σ H' env S' → ItOk Γ μ' H' J ds w → R J H'

structure JE (X : Cx) (e : Expr) (f : ESem) : Prop where
  pe : PE X e (wpE X.K f)
structure JA (X : Cx) (es : List Expr) (f : ASem) : Prop where
  pa : PA X es (wpA X.K f)
structure JT (X : Cx) (e : Expr) (f : TSem) : Prop where
  pt : PT X e (wpT X.K f)
structure JW (X : Cx) (e : Expr) (f : TSem) : Prop where
  pw : PW X e (wpT X.K f)
structure JO (X : Cx) (e : Option Expr) (f : OSem) : Prop where
  po : PO X e (wpO X.K f)
structure JS (X : Cx) (st : Stmt) (f : SSem) : Prop where
  ps : PS X st (wpS X.K f)
structure JSs (X : Cx) (sts : List Stmt) (f : SSem) : Prop where
  ps : PSs X sts (wpS X.K f)
structure JI (X : Cx) (tg e : Expr) (f : ISem) : Prop where
  pi : PI X tg e (wpI X.K f)
structure JG (X : Cx) (tg : Expr) (p : Pat) : Prop where
  pg : PG X tg (p.raw X.K)
structure JGs (X : Cx) (tgs : List Expr) (ps : List Pat) : Prop where
  pg : PGs X tgs (rawS X.K ps)
structure JTs (X : Cx) (es : List Expr) (f : TSem) : Prop where
  pt : PTs X es (wpT X.K f)

section
variable {X : Cx}
theorem PE.imp {e : Expr} {t t' : TE} (h : PE X e t) (k : ∀ σ H Q,t' σ H Q → t σ H Q) : PE X e t' := fun pins s σ H Q I q => h pins s σ H Q I (k σ H Q q)
theorem PT.imp {e : Expr} {t t' : TT} (h : PT X e t) (k : ∀ σ H Q,t' σ H Q → t σ H Q) : PT X e t' := fun pins s σ H Q I q => h pins s σ H Q I (k σ H Q q)
theorem PW.imp {e : Expr} {t t' : TT} (h : PW X e t) (k : ∀ σ H Q,t' σ H Q → t σ H Q) : PW X e t' := fun w pins s σ H Q I q => h w pins s σ H Q I (k σ H Q q)
theorem PTs.imp {e : List Expr} {t t' : TT} (h : PTs X e t) (k : ∀ σ H Q,t' σ H Q → t σ H Q) : PTs X e t' := fun pins s σ H Q I q => h pins s σ H Q I (k σ H Q q)
theorem PA.imp {e : List Expr} {t t' : TA} (h : PA X e t) (k : ∀ σ H Q,t' σ H Q → t σ H Q) : PA X e t' := fun p pins s σ H Q I q => h p pins s σ H Q I (k σ H Q q)
theorem PO.imp {e : Option Expr} {t t' : TO} (h : PO X e t) (k : ∀ σ H Q,t' σ H Q → t σ H Q) : PO X e t' := fun pins s σ H Q I q => h pins s σ H Q I (k σ H Q q)
theorem PS.imp {e : Stmt} {t t' : TS} (h : PS X e t) (k : ∀ E σ H,t' E σ H → t E σ H) : PS X e t' := fun pins s σ H E I q => h pins s σ H E I (k E σ H q)
theorem PSs.imp {e : List Stmt} {t t' : TS} (h : PSs X e t) (k : ∀ E σ H,t' E σ H → t E σ H) : PSs X e t' := fun pins s σ H E I q => h pins s σ H E I (k E σ H q)
theorem PI.imp {tg e : Expr} {t t' : TI} (h : PI X tg e t) (k : ∀ σ H R,t' σ H R → t σ H R) : PI X tg e t' := fun pins s σ H R I q => h pins s σ H R I (k σ H R q)
theorem PG.imp {e : Expr} {t t' : TG} (h : PG X e t) (k : ∀ v σ H Q,t' v σ H Q → t v σ H Q) : PG X e t' := fun pins s σ H v u Q I r q => h pins s σ H v u Q I r (k v σ H Q q)
theorem PGs.imp {e : List Expr} {t t' : TGs} (h : PGs X e t) (k : ∀ v σ H Q,t' v σ H Q → t v σ H Q) : PGs X e t' := fun pins s σ H v u Q I r q => h pins s σ H v u Q I r (k v σ H Q q)

theorem bind_some {α β : Type} {a : Option α} {f : α → Option β} {b : β} (h : a.bind f = some b) : ∃ x,a = some x ∧ f x = some b := by
  cases a with
  | none => cases h
  | some x => exact ⟨x,rfl,h⟩
theorem map_some {α β : Type} {a : Option α} {f : α → β} {b : β} (h : a.map f = some b) : ∃ x,a = some x ∧ f x = b := by
  cases a with
  | none => cases h
  | some x => exact ⟨x,rfl,Option.some.inj h⟩

def Sem2 (K : PySem.W.Frag) (r : R2) (g : Store → D → D → Option D) : Prop := ∀ (Γ : Fr) (μ : Mu) (σ : St) (H : Hp) (env : Env) (S : Store) (x y : V) (dx dy d : D),Γ.K = K → Rep Γ μ σ H env S → VR Γ μ H x dx → VR Γ μ H y dy → g S dx dy = some d →
  ∀ Q : VK,(∀ v H',Same H H' → VR Γ μ H' v d → Q v H') → r x y H Q
def Sem1 (K : PySem.W.Frag) (r : V → Hp → VK → Prop) (g : Store → D → Option D) : Prop := ∀ (Γ : Fr) (μ : Mu) (σ : St) (H : Hp) (env : Env) (S : Store) (x : V) (dx d : D),Γ.K = K → Rep Γ μ σ H env S → VR Γ μ H x dx → g S dx = some d →
  ∀ Q : VK,(∀ v H',Same H H' → VR Γ μ H' v d → Q v H') → r x H Q
def SemC (K : PySem.W.Frag) (r : List V → Hp → VK → Prop) (g : Store → List D → Option D) : Prop := ∀ (Γ : Fr) (μ : Mu) (σ : St) (H : Hp) (env : Env) (S : Store) (xs : List V) (ds : List D) (d : D),Γ.K = K → Rep Γ μ σ H env S → VRs Γ μ H xs ds → g S ds = some d →
  ∀ Q : VK,(∀ v H',Same H H' → VR Γ μ H' v d → Q v H') → r xs H Q
def JB1 (K : PySem.W.Frag) (r : V → Option Int → Option Int → Hp → VK → Prop) (g : Store → D → Option Int → Option Int → Option D) : Prop := ∀ (Γ : Fr) (μ : Mu) (σ : St) (H : Hp) (env : Env) (S : Store) (x : V) (dx d : D) (l h : Option Int),Γ.K = K → Rep Γ μ σ H env S → VR Γ μ H x dx → g S dx l h = some d →
  ∀ Q : VK,(∀ v H',Same H H' → VR Γ μ H' v d → Q v H') → r x l h H Q

theorem Jt7 {K : PySem.W.Frag} {r : R2} {g : Store → D → D → Option D} {fa fb : ESem} (hs : Sem2 K r g) {σ : St} {H : Hp} {Q : VK} (h : wpE K (eOp g fa fb) σ H Q) : tOp r (wpE K fa) (wpE K fb) σ H Q := by
  obtain ⟨Γ,μ,env,S,d,S',hK,R,e,q⟩ := h
  obtain ⟨⟨x,S1⟩,e1,e⟩ := bind_some e
  obtain ⟨⟨y,S2⟩,e2,e⟩ := bind_some e
  obtain ⟨z,e3,e⟩ := map_some e
  cases e
  refine ⟨Γ,μ,env,S,x,S1,hK,R,e1,fun v1 μ1 H1 x1 R1 r1 => ?_⟩
  refine ⟨Γ,μ1,env,S1,y,S2,hK,R1,e2,fun v2 μ2 H2 x2 R2 r2 => ?_⟩
  refine hs Γ μ2 σ H2 env S2 v1 v2 x y _ hK R2 (r1.ext x2) r2 e3 Q fun v H' sm rv => ?_
  obtain ⟨R3,x3⟩ := R2.grow sm
  exact q v μ2 H' (x1.trans (x2.trans x3)) R3 rv
theorem Jbf {op : Operator} {r : R2} {g : Store → D → D → Option D} {a b : Expr} {fa fb : ESem} {pos : Pos} (ho : OpR X (binaryOp op) r) (hs : Sem2 X.K r g) (ha : JE X a fa) (hb : JE X b fb) : JE X (.BinOp a op b pos) (eOp g fa fb) :=
  ⟨PE.imp (JCz ho ha.pe hb.pe) fun _ _ _ h => Jt7 hs h⟩
theorem Jkd {op : CmpOp} {r : R2} {g : Store → D → D → Option D} {a b : Expr} {fa fb : ESem} {pos : Pos} (ho : OpR X (compareOp op) r) (hs : Sem2 X.K r g) (ha : JE X a fa) (hb : JE X b fb) (hm : behindInMarks op b = false) : JE X (.Compare a [op] [b] pos) (eOp g fa fb) :=
  ⟨PE.imp (Jsd ho ha.pe hb.pe hm) fun _ _ _ h => Jt7 hs h⟩
theorem Jb0 {r : R2} {g : Store → D → D → Option D} {a b : Expr} {fa fb : ESem} {pos : Pos} (ho : IxR X r) (hs : Sem2 X.K r g) (ha : JE X a fa) (hb : JE X b fb) (hp : Jmz b) : JE X (.Subscript a b pos) (eOp g fa fb) :=
  ⟨PE.imp (JC0 ho ha.pe hb.pe hp) fun _ _ _ h => Jt7 hs h⟩
theorem JBg {op : UnaryOp} {r : V → Hp → VK → Prop} {g : Store → D → Option D} {a : Expr} {fa : ESem} {pos : Pos} (ho : UnR X (unaryOp op) r) (hs : Sem1 X.K r g) (ha : JE X a fa) : JE X (.UnaryOp op a pos) (eUn g fa) :=
  ⟨PE.imp (JCy ho ha.pe) fun σ H Q h => by
    obtain ⟨Γ,μ,env,S,d,S',hK,R,e,q⟩ := h
    obtain ⟨⟨x,S1⟩,e1,e⟩ := bind_some e
    obtain ⟨z,e3,e⟩ := map_some e
    cases e
    refine ⟨Γ,μ,env,S,x,S1,hK,R,e1,fun v1 μ1 H1 x1 R1 r1 => ?_⟩
    refine hs Γ μ1 σ H1 env S1 v1 x _ hK R1 r1 e3 Q fun v H' sm rv => ?_
    obtain ⟨R3,x3⟩ := R1.grow sm
    exact q v μ1 H' (x1.trans x3) R3 rv⟩
theorem Jab (i : Nat) {x : Str} {pos : Pos} (hN : X.N[i]? = some x := by rfl) (hv : Vis X.env.scope x := by first | exact Or.inl rfl | exact Or.inr (Or.inl rfl) | exact Or.inr (Or.inr rfl)) (hd : (x == ("__debug__" : Str)) = false := by decide)
    (hcd : (x == ("__classdict__" : Str)) = false := by decide) : JE X (.Name x pos) (eVar i) :=
  ⟨PE.imp (JAl hN hv hd hcd) fun σ H Q h => by
    obtain ⟨Γ,μ,env,S,d,S',hK,R,e,q⟩ := h
    obtain ⟨d',e1,e⟩ := map_some e
    cases e
    have e1' : env[i]? = some (some d) := by
      cases h : env[i]? with
      | none => rw [h] at e1; cases e1
      | some o => rw [h] at e1; exact congrArg some e1
    obtain ⟨v,h1,h2⟩ := R.vals i d e1'
    exact ⟨v,h1,q v μ H (Ext.refl _ _) R h2⟩⟩
theorem wp_c {K : PySem.W.Frag} {v : V} {d : D} (h : ∀ Γ μ H,VR Γ μ H v d) {σ : St} {H : Hp} {Q : VK} (w : wpE K (eC d) σ H Q) : tC v σ H Q := by
  obtain ⟨Γ,μ,env,S,d',S',hK,R,e,q⟩ := w
  cases e
  exact q v μ H (Ext.refl _ _) R (h Γ μ H)
theorem Jah {i j pos} : JE X (.Constant (.int i) j pos) (eC (.int i)) := ⟨PE.imp JAq fun _ _ _ => wp_c fun _ _ _ => .int i⟩
theorem Jjn {b j pos} : JE X (.Constant (.bool b) j pos) (eC (.bl b)) := ⟨PE.imp JC2 fun _ _ _ => wp_c fun _ _ _ => .bl b⟩
theorem Jli {j pos} : JE X (.Constant .none j pos) (eC .non) := ⟨PE.imp JAp fun _ _ _ => wp_c fun _ _ _ => .non⟩
theorem Jh0 {n : String} {x : Str} {pos : Pos} (hg : Gl X x) (hm : X.mg x = none) (hv : bootBuiltins x = some (.type n)) (hn : x ≠ "__name__" := by decide) (hd : (x == ("__debug__" : Str)) = false := by decide) : JE X (.Name x pos) (eC (.ty n)) :=
  ⟨PE.imp (Jyc (v := .ty n) hg hm hv rfl hn hd) fun _ _ _ => wp_c fun _ _ _ => .ty n⟩

theorem Jae : JA X [] aNil := ⟨PA.imp Jpy fun σ H Q h => by
  obtain ⟨Γ,μ,env,S,d,S',hK,R,e,q⟩ := h
  cases e
  exact q [] μ H (Ext.refl _ _) R .nil⟩
theorem Jaa {e : Expr} {es : List Expr} {f : ESem} {r : ASem} (ha : JE X e f) (hr : JA X es r) (hs : starEach (e :: es) X.env = (false,eval e X.env) :: starEach es X.env := by rfl) : JA X (e :: es) (Jac f r) :=
  ⟨PA.imp (Jl8 ha.pe hr.pa hs) fun σ H Q h => by
    obtain ⟨Γ,μ,env,S,d,S',hK,R,e,q⟩ := h
    obtain ⟨⟨x,S1⟩,e1,e⟩ := bind_some e
    obtain ⟨⟨y,S2⟩,e2,e⟩ := bind_some e
    cases e
    refine ⟨Γ,μ,env,S,x,S1,hK,R,e1,fun v1 μ1 H1 x1 R1 r1 => ?_⟩
    refine ⟨Γ,μ1,env,S1,y,S2,hK,R1,e2,fun v2 μ2 H2 x2 R2 r2 => ?_⟩
    exact q _ μ2 H2 (x1.trans x2) R2 (.cons (r1.ext x2) r2)⟩
theorem big {n : Nat} (h : n ≤ 1000000) : n < sizeLine := Nat.lt_of_le_of_lt h (by decide)
theorem Jzr {K : PySem.W.Frag} {f : ASem} {σ : St} {H : Hp} {Q : VK} (hl : ∀ env S p,f env S = some p → p.1.length ≤ 1000000) (h : wpE K (eTup f) σ H Q) : tTup (wpA K f) σ H Q := by
  obtain ⟨Γ,μ,env,S,d,S',hK,R,e,q⟩ := h
  obtain ⟨⟨x,S1⟩,e1,e⟩ := bind_some e
  cases e
  refine ⟨Γ,μ,env,S,x,S1,hK,R,e1,fun vs μ1 H1 x1 R1 r1 => ⟨by rw [r1.length]; exact Nat.le_of_lt (big (hl _ _ _ e1)),fun p hp => ?_⟩⟩
  have sm := Jbt hp (.tup vs)
  obtain ⟨R2,x2⟩ := R1.grow sm
  exact q _ μ1 _ (x1.trans x2) R2 (.tup Ja6 (r1.ext x2))
def Few (n : Nat) (f : ASem) : Prop := ∀ env S p,f env S = some p → p.1.length ≤ n
theorem Jao : Few 0 aNil := fun env S p h => by cases h; exact Nat.le_refl _
theorem Jaj {n : Nat} {f : ESem} {r : ASem} (h : Few n r) : Few (n + 1) (Jac f r) := fun env S p e => by
  obtain ⟨⟨x,S1⟩,e1,e⟩ := bind_some e
  obtain ⟨⟨y,S2⟩,e2,e⟩ := bind_some e
  cases e
  have := h _ _ _ e2
  show (x :: y).length ≤ n + 1
  rw [List.length_cons]
  exact Nat.succ_le_succ this
theorem Jci {es : List Expr} {f : ASem} {x1 : Nat} {pos : Pos} {n : Nat} (h : JA X es f) (hf : Few n f) (hn : n ≤ 1000000 := by decide) : JE X (.Tuple es x1 pos) (eTup f) := ⟨PE.imp (JAm h.pa) fun _ _ _ w => Jzr (fun env S p e => Nat.le_trans (hf env S p e) hn) w⟩
theorem Jc9 {es : List Expr} {f : ASem} {pos : Pos} {n : Nat} (h : JA X es f) (hf : Few n f) (hn : n ≤ 1000000 := by decide) : JE X (.List es pos) (eFrz f) := ⟨PE.imp (Jwi h.pa) fun σ H Q w => by
  obtain ⟨Γ,μ,env,S,d,S',hK,R,e,q⟩ := w
  obtain ⟨⟨x,S1⟩,e1,e⟩ := bind_some e
  cases e
  refine ⟨Γ,μ,env,S,x,S1,hK,R,e1,fun vs μ1 H1 x1 R1 r1 => ⟨by rw [r1.length]; exact Nat.le_of_lt (big (Nat.le_trans (hf _ _ _ e1) hn)),fun p hp => ?_⟩⟩
  obtain ⟨R2,x2⟩ := R1.grow (Jbt hp (.lst vs))
  exact q _ μ1 _ (x1.trans x2) R2 (.lst (R1.ok hp true) (R1.dead hp) Ja6 (r1.ext x2))⟩
theorem Jmj {es : List Expr} {f : ASem} {pos : Pos} {n : Nat} (h : JA X es f) (hf : Few n f) (hn : n ≤ 1000000 := by decide) : JE X (.List es pos) (eSto f) := ⟨PE.imp (Jwi h.pa) fun σ H Q w => by
  obtain ⟨Γ,μ,env,S,d,S',hK,R,e,q⟩ := w
  obtain ⟨⟨x,S1⟩,e1,e⟩ := bind_some e
  cases e
  refine ⟨Γ,μ,env,S,x,S1,hK,R,e1,fun vs μ1 H1 x1 R1 r1 => ⟨by rw [r1.length]; exact Nat.le_of_lt (big (Nat.le_trans (hf _ _ _ e1) hn)),fun p hp => ?_⟩⟩
  obtain ⟨R2,x2⟩ := R1.laid hp r1
  exact q _ _ _ (x1.trans x2) R2 (.ref (by rw [List.length_append,R1.slen]; simp) fun a h => by
    rw [R1.slen] at h
    simp at h
    rw [h])⟩
end
end VS
end
section
set_option Elab.async false
set_option maxRecDepth 10000
set_option linter.all false
namespace VS
open PySem PySem.Spec L2
section
variable {X : Cx} {a b c : Expr} {fa fb fc : ESem} {pos : Pos} {rest : List Expr}

theorem Jnu {op} (h : JE X a fa) : JE X (.BoolOp op [a] pos) fa := ⟨JAn h.pe⟩
theorem Jke (ha : JE X a fa) (hb : JE X (.BoolOp .And (b :: rest) pos) fb) : JE X (.BoolOp .And (a :: b :: rest) pos) (eAnd fa fb) := ⟨PE.imp (JAr ha.pe hb.pe) fun σ H Q h => by
  obtain ⟨Γ,μ,env,S,d,S',hK,R,e,q⟩ := h
  obtain ⟨⟨x,S1⟩,e1,e⟩ := bind_some e
  refine ⟨Γ,μ,env,S,x,S1,hK,R,e1,fun v1 μ1 H1 x1 R1 r1 => ?_⟩
  dsimp only at e
  split at e
  · cases r1
    exact ⟨true,rfl,by rw [if_pos rfl]; exact ⟨Γ,μ1,env,S1,d,S',hK,R1,e,fun v μ' H' x' R' r' => q v μ' H' (x1.trans x') R' r'⟩⟩
  · cases r1
    cases e
    exact ⟨false,rfl,by rw [if_neg Bool.false_ne_true]; exact q _ μ1 H1 x1 R1 (.bl false)⟩
  · cases e⟩
theorem Jwl (ha : JE X a fa) : JE X (.UnaryOp .Not a pos) (eNot fa) := ⟨PE.imp (JAo ha.pe) fun σ H Q h => by
  obtain ⟨Γ,μ,env,S,d,S',hK,R,e,q⟩ := h
  obtain ⟨⟨x,S1⟩,e1,e⟩ := bind_some e
  refine ⟨Γ,μ,env,S,x,S1,hK,R,e1,fun v1 μ1 H1 x1 R1 r1 => ?_⟩
  dsimp only at e
  split at e
  · rename_i c
    cases r1
    cases e
    exact ⟨c,rfl,q _ μ1 H1 x1 R1 (.bl _)⟩
  · cases e⟩
theorem Jfx {e : Expr} (h : JE X e fa) (he : ∀ whole,isTrue e X.env whole = (do let v ← whole; standAt e.pos; holding [v] (truthy v)) := by intro _; rfl) : JT X e (tVal fa) := ⟨PT.imp (JAd h.pe he) fun σ H Q h => by
  obtain ⟨Γ,μ,env,S,d,S',hK,R,e,q⟩ := h
  obtain ⟨⟨x,S1⟩,e1,e⟩ := bind_some e
  refine ⟨Γ,μ,env,S,x,S1,hK,R,e1,fun v1 μ1 H1 x1 R1 r1 => ?_⟩
  dsimp only at e
  split at e
  · rename_i c
    cases r1
    cases e
    exact ⟨_,rfl,q μ1 H1 x1 R1⟩
  · cases e⟩
theorem Jre {K : PySem.W.Frag} {f : ESem} {t : TE} (ht : ∀ σ H Q,wpE K f σ H Q → t σ H Q) {σ : St} {H : Hp} {Q : Bool → Hp → Prop} (h : wpT K (tVal f) σ H Q) : Jxi t σ H Q := by
  obtain ⟨Γ,μ,env,S,d,S',hK,R,e,q⟩ := h
  obtain ⟨⟨x,S1⟩,e1,e⟩ := bind_some e
  refine ht σ H _ ⟨Γ,μ,env,S,x,S1,hK,R,e1,fun v1 μ1 H1 x1 R1 r1 => ?_⟩
  dsimp only at e
  split at e
  · cases r1
    cases e
    exact ⟨_,rfl,q μ1 H1 x1 R1⟩
  · cases e
theorem Jb9 {op : CmpOp} {r : R2} {g : Store → D → D → Option D} (ho : OpR X (compareOp op) r) (hs : Sem2 X.K r g) (ha : JE X a fa) (hb : JE X b fb) (hm : behindInMarks op b = false) : JT X (.Compare a [op] [b] pos) (tVal (eOp g fa fb)) :=
  ⟨PT.imp (Jxz ho ha.pe hb.pe hm) fun σ H Q h => Jre (fun _ _ _ => Jt7 hs) h⟩
theorem Jt8 {K : PySem.W.Frag} {r r' : R2} {g g' : Store → D → D → Option D} (hs : Sem2 K r g) (hs' : Sem2 K r' g') {σ : St} {H : Hp} {Q : VK} (h : wpE K (Jqh g g' fa fb fc) σ H Q) : Jwd r r' (wpE K fa) (wpE K fb) (wpE K fc) σ H Q := by
  obtain ⟨Γ,μ,env,S,d,S',hK,R,e,q⟩ := h
  obtain ⟨⟨x,S1⟩,e1,e⟩ := bind_some e
  obtain ⟨⟨y,S2⟩,e2,e⟩ := bind_some e
  obtain ⟨z,e3,e⟩ := bind_some e
  refine ⟨Γ,μ,env,S,x,S1,hK,R,e1,fun v1 μ1 H1 x1 R1 r1 => ?_⟩
  refine ⟨Γ,μ1,env,S1,y,S2,hK,R1,e2,fun v2 μ2 H2 x2 R2 r2 => ?_⟩
  refine hs Γ μ2 σ H2 env S2 v1 v2 x y _ hK R2 (r1.ext x2) r2 e3 _ fun v H3 sm rv => ?_
  obtain ⟨R3,x3⟩ := R2.grow sm
  dsimp only at e
  split at e
  · cases rv
    refine ⟨true,rfl,?_⟩
    rw [if_pos rfl]
    obtain ⟨⟨u,S3⟩,e4,e⟩ := bind_some e
    obtain ⟨w,e5,e⟩ := map_some e
    cases e
    refine ⟨Γ,μ2,env,S2,u,S3,hK,R3,e4,fun v4 μ4 H4 x4 R4 r4 => ?_⟩
    refine hs' Γ μ4 σ H4 env S3 v2 v4 y u _ hK R4 (r2.ext (x3.trans x4)) r4 e5 _ fun v5 H5 sm5 rv5 => ?_
    obtain ⟨R5,x5⟩ := R4.grow sm5
    exact q v5 μ4 H5 (x1.trans (x2.trans (x3.trans (x4.trans x5)))) R5 rv5
  · cases rv
    cases e
    refine ⟨false,rfl,?_⟩
    rw [if_neg Bool.false_ne_true]
    exact q _ μ2 H3 (x1.trans (x2.trans x3)) R3 (.bl false)
  · cases e
theorem Jvf {op op' : CmpOp} {r r' : R2} {g g' : Store → D → D → Option D} (ho : OpR X (compareOp op) r) (hs : Sem2 X.K r g) (ho' : OpR X (compareOp op') r') (hs' : Sem2 X.K r' g') (ha : JE X a fa) (hb : JE X b fb) (hc : JE X c fc)
    (hm : lastMarks [op,op'] [b,c] = false := by with_unfolding_all rfl) : JT X (.Compare a [op,op'] [b,c] pos) (tVal (Jqh g g' fa fb fc)) := ⟨PT.imp (Juu ho ho' ha.pe hb.pe hc.pe hm) fun _ _ _ h => Jre (fun _ _ _ => Jt8 hs hs') h⟩
variable {ta tb : TSem}
theorem Jjm (h : JW X a ta) : JT X a ta := ⟨h.pw.pt⟩
theorem Jsw (ha : JT X a ta) : JW X (.BoolOp .And [a] pos) ta := ⟨Jxw ha.pt⟩
theorem Jhq (ha : JT X a ta) : JW X (.BoolOp .Or [a] pos) ta := ⟨Jz8 ha.pt⟩
theorem Jwj (ha : JT X a ta) (hb : JW X (.BoolOp .And (b :: rest) pos) tb) : JW X (.BoolOp .And (a :: b :: rest) pos) (tAnd ta tb) := ⟨PW.imp (Jz9 ha.pt hb.pw) fun σ H Q h => by
  obtain ⟨Γ,μ,env,S,d,S',hK,R,e,q⟩ := h
  obtain ⟨⟨x,S1⟩,e1,e⟩ := bind_some e
  refine ⟨Γ,μ,env,S,x,S1,hK,R,e1,fun μ1 H1 x1 R1 => ?_⟩
  dsimp only at e
  by_cases hx : x = true
  · rw [if_pos hx] at e ⊢
    exact ⟨Γ,μ1,env,S1,d,S',hK,R1,e,fun μ' H' x' R' => q μ' H' (x1.trans x') R'⟩
  · rw [if_neg hx] at e ⊢
    cases e
    exact q μ1 H1 x1 R1⟩
theorem Jit (ha : JT X a ta) (hb : JW X (.BoolOp .Or (b :: rest) pos) tb) : JW X (.BoolOp .Or (a :: b :: rest) pos) (tOr ta tb) := ⟨PW.imp (JCw ha.pt hb.pw) fun σ H Q h => by
  obtain ⟨Γ,μ,env,S,d,S',hK,R,e,q⟩ := h
  obtain ⟨⟨x,S1⟩,e1,e⟩ := bind_some e
  refine ⟨Γ,μ,env,S,x,S1,hK,R,e1,fun μ1 H1 x1 R1 => ?_⟩
  dsimp only at e
  by_cases hx : x = true
  · rw [if_pos hx] at e ⊢
    cases e
    exact q μ1 H1 x1 R1
  · rw [if_neg hx] at e ⊢
    exact ⟨Γ,μ1,env,S1,d,S',hK,R1,e,fun μ' H' x' R' => q μ' H' (x1.trans x') R'⟩⟩
theorem Jg5 (ha : JT X a ta) : JT X (.UnaryOp .Not a pos) (tNot ta) := ⟨PT.imp (JAe ha.pt) fun σ H Q h => by
  obtain ⟨Γ,μ,env,S,d,S',hK,R,e,q⟩ := h
  obtain ⟨⟨x,S1⟩,e1,e⟩ := bind_some e
  cases e
  exact ⟨Γ,μ,env,S,x,S1,hK,R,e1,fun μ1 H1 x1 R1 => q μ1 H1 x1 R1⟩⟩
theorem Jdo : JTs X [] tYes := ⟨PTs.imp Jxy fun σ H Q h => by
  obtain ⟨Γ,μ,env,S,d,S',hK,R,e,q⟩ := h
  cases e
  exact q μ H (Ext.refl _ _) R⟩
theorem Jmi (h : JT X c ta) : JTs X [c] ta := ⟨Jxx h.pt⟩

variable {lo hi : Option Expr} {ol oh : OSem} {p2 : Pos}
theorem Jfg : JO X none Jhw := ⟨PO.imp Jx5 fun σ H Q h => by
  obtain ⟨Γ,μ,env,S,d,S',hK,R,e,q⟩ := h
  cases e
  exact q μ H (Ext.refl _ _) R⟩
theorem Jff (h : JE X a fa) : JO X (some a) (Jhv fa) := ⟨PO.imp (Jx4 h.pe) fun σ H Q h => by
  obtain ⟨Γ,μ,env,S,d,S',hK,R,e,q⟩ := h
  obtain ⟨⟨x,S1⟩,e1,e⟩ := bind_some e
  refine ⟨Γ,μ,env,S,x,S1,hK,R,e1,fun v1 μ1 H1 x1 R1 r1 => ?_⟩
  dsimp only at e
  split at e
  · cases r1
    cases e
    exact ⟨_,rfl,q μ1 H1 x1 R1⟩
  · cases e⟩
theorem Jd4 {r : V → Option Int → Option Int → Hp → VK → Prop} {g : Store → D → Option Int → Option Int → Option D} (hr : SlR X r) (hs : JB1 X.K r g) (ha : JE X a fa) (hl : JO X lo ol) (hh : JO X hi oh) :
    JE X (.Subscript a (.Slice lo hi none p2) pos) (eSl g fa ol oh) := ⟨PE.imp (Juz hr ha.pe hl.po hh.po) fun σ H Q h => by
  obtain ⟨Γ,μ,env,S,d,S',hK,R,e,q⟩ := h
  obtain ⟨⟨x,S1⟩,e1,e⟩ := bind_some e
  obtain ⟨⟨l,S2⟩,e2,e⟩ := bind_some e
  obtain ⟨⟨u,S3⟩,e3,e⟩ := bind_some e
  obtain ⟨z,e4,e⟩ := map_some e
  cases e
  refine ⟨Γ,μ,env,S,x,S1,hK,R,e1,fun v1 μ1 H1 x1 R1 r1 => ?_⟩
  refine ⟨Γ,μ1,env,S1,l,S2,hK,R1,e2,fun μ2 H2 x2 R2 => ?_⟩
  refine ⟨Γ,μ2,env,S2,u,S3,hK,R2,e3,fun μ3 H3 x3 R3 => ?_⟩
  refine hs Γ μ3 σ H3 env S3 v1 x _ l u hK R3 (r1.ext (x2.trans x3)) e4 Q fun v H' sm rv => ?_
  obtain ⟨R4,x4⟩ := R3.grow sm
  exact q v μ3 H' (x1.trans (x2.trans (x3.trans x4))) R4 rv⟩

theorem Jzt {K : PySem.W.Frag} {r : List V → Hp → VK → Prop} {g : Store → List D → Option D} {f : ASem} (hs : SemC K r g) {σ : St} {H : Hp} {Q : VK} (h : wpE K (eCB g f) σ H Q) : tCB r (wpA K f) σ H Q := by
  obtain ⟨Γ,μ,env,S,d,S',hK,R,e,q⟩ := h
  obtain ⟨⟨x,S1⟩,e1,e⟩ := bind_some e
  obtain ⟨z,e4,e⟩ := map_some e
  cases e
  refine ⟨Γ,μ,env,S,x,S1,hK,R,e1,fun v1 μ1 H1 x1 R1 r1 => ?_⟩
  refine hs Γ μ1 σ H1 env S1 v1 x _ hK R1 r1 e4 Q fun v H' sm rv => ?_
  obtain ⟨R4,x4⟩ := R1.grow sm
  exact q v μ1 H' (x1.trans x4) R4 rv
variable {x : Str} {p : Pos} {e : Expr} {es : List Expr} {id T : String} {f : ASem}
theorem Jaq {r : List V → Hp → VK → Prop} {g : Store → List D → Option D} (hc : Jdp X (.builtin id) r) (hsm : SemC X.K r g) (hg : Gl X x) (hm : X.mg x = none) (hv : bootBuiltins x = some (.builtin id)) (ha : JA X (e :: es) f) (hn : x ≠ "__name__" := by decide) (hdb : (x == ("__debug__" : Str)) = false := by decide)
    (he : starEach (e :: es) X.env = (false,eval e X.env) :: starEach es X.env := by rfl) (hpl : (backTo pos (starEach es X.env)).any (·.1) = false := by rfl) : JE X (.Call (.Name x p) (e :: es) [] pos) (eCB g f) :=
  ⟨PE.imp (Jpx hc hg hm hv ha.pa hn hdb he hpl) fun _ _ _ h => Jzt hsm h⟩
theorem Jg7 {r : List V → Hp → VK → Prop} {g : Store → List D → Option D} (hc : Jdp X (.type T) r) (hsm : SemC X.K r g) (hg : Gl X x) (hm : X.mg x = none) (hv : bootBuiltins x = some (.type T)) (ha : JA X (e :: es) f) (hn : x ≠ "__name__" := by decide) (hdb : (x == ("__debug__" : Str)) = false := by decide)
    (he : starEach (e :: es) X.env = (false,eval e X.env) :: starEach es X.env := by rfl) (hpl : (backTo pos (starEach es X.env)).any (·.1) = false := by rfl) : JE X (.Call (.Name x p) (e :: es) [] pos) (eCB g f) :=
  ⟨PE.imp (Jgw hc hg hm hv ha.pa hn hdb he hpl) fun _ _ _ h => Jzt hsm h⟩
end

section
variable {X : Cx} {st : Stmt} {sts : List Stmt} {f g : SSem} {fa : ESem} {a : Expr} {pos : Pos} {K : PySem.W.Frag}
theorem JCj {E : Ends} {σ : St} {H : Hp} {fl : Fl} (h : wpS K (fun env S => some (fl,env,S)) E σ H) : ∃ Γ μ,FlQ Γ μ E σ H fl := by
  obtain ⟨Γ,μ,env,S,fl',env',S',hK,R,e,q⟩ := h
  cases e
  exact ⟨Γ,μ,q μ σ H (Ext.refl _ _) R⟩
theorem Jbo : JSs X [] sNil := ⟨PSs.imp Jx1 fun E σ H h => let ⟨_,_,q⟩ := JCj (fl := .nx) h; q⟩
theorem Jvg : JS X st Jr1 := ⟨PS.imp Juw fun E σ H h => by obtain ⟨_,_,_,_,_,_,_,_,_,e,_⟩ := h; cases e⟩
theorem FlQ.ext {Γ : Fr} {μ : Mu} {E E' : Ends} {σ : St} {H : Hp} {fl : Fl} (q : FlQ Γ μ E σ H fl) (h1 : ∀ σ H,E.nx σ H → E'.nx σ H) (h2 : ∀ σ H,E.bk σ H → E'.bk σ H) (h3 : ∀ σ H,E.ct σ H → E'.ct σ H) (h4 : ∀ v H,E.rt v H → E'.rt v H) : FlQ Γ μ E' σ H fl := by
  cases fl with
  | nx => exact h1 _ _ q
  | brk => exact h2 _ _ q
  | cnt => exact h3 _ _ q
  | ret d => exact fun v r => h4 _ _ (q v r)
theorem Jak (h1 : JS X st f) (h2 : JSs X sts g) : JSs X (st :: sts) (sSeq f g) := ⟨PSs.imp (Juv h1.ps h2.ps) fun E σ H h => by
  obtain ⟨Γ,μ,env,S,fl,env',S',hK,R,e,q⟩ := h
  obtain ⟨⟨fl1,env1,S1⟩,e1,e⟩ := bind_some e
  refine ⟨Γ,μ,env,S,fl1,env1,S1,hK,R,e1,fun μ1 σ1 H1 x1 R1 => ?_⟩
  dsimp only at e
  cases fl1 with
  | nx => exact ⟨Γ,μ1,env1,S1,fl,env',S',hK,R1,e,fun μ' σ' H' x' R' => q μ' σ' H' (x1.trans x') R'⟩
  | brk => cases e; exact q μ1 σ1 H1 x1 R1
  | cnt => cases e; exact q μ1 σ1 H1 x1 R1
  | ret d => cases e; exact q μ1 σ1 H1 x1 R1⟩
theorem Jam (h1 : JS X st f) : JSs X [st] f := ⟨Jx0 h1.ps⟩
theorem Jlh (he : JE X a fa) (hs : swapsWith a none pos.line X.env = pure false := by rfl) : JS X (.Expr a pos) (sExp fa) := ⟨PS.imp (Jx3 he.pe hs) fun E σ H h => by
  obtain ⟨Γ,μ,env,S,fl,env',S',hK,R,e,q⟩ := h
  obtain ⟨⟨x,S1⟩,e1,e⟩ := bind_some e
  cases e
  exact ⟨Γ,μ,env,S,x,S1,hK,R,e1,fun v1 μ1 H1 x1 R1 r1 => q μ1 σ H1 x1 R1⟩⟩
theorem Jbh (he : JE X a fa) : JS X (.Return (some a) pos) (sRet fa) := ⟨PS.imp (JAg he.pe) fun E σ H h => by
  obtain ⟨Γ,μ,env,S,fl,env',S',hK,R,e,q⟩ := h
  obtain ⟨⟨x,S1⟩,e1,e⟩ := bind_some e
  cases e
  exact ⟨Γ,μ,env,S,x,S1,hK,R,e1,fun v1 μ1 H1 x1 R1 r1 => q μ1 σ H1 x1 R1 v1 r1⟩⟩
theorem Jd0 {c : Expr} {A B : List Stmt} {tc : TSem} (hc : JT X c tc) (ha : JSs X A f) (hb : JSs X B g) : JS X (.If c A B pos) (sIf tc f g) := ⟨PS.imp (JCx hc.pt ha.ps hb.ps) fun E σ H h => by
  obtain ⟨Γ,μ,env,S,fl,env',S',hK,R,e,q⟩ := h
  obtain ⟨⟨x,S1⟩,e1,e⟩ := bind_some e
  refine ⟨Γ,μ,env,S,x,S1,hK,R,e1,fun μ1 H1 x1 R1 => ?_⟩
  dsimp only at e
  by_cases hx : x = true
  · rw [if_pos hx] at e ⊢
    exact ⟨Γ,μ1,env,S1,fl,env',S',hK,R1,e,fun μ' σ' H' x' R' => q μ' σ' H' (x1.trans x') R'⟩
  · rw [if_neg hx] at e ⊢
    exact ⟨Γ,μ1,env,S1,fl,env',S',hK,R1,e,fun μ' σ' H' x' R' => q μ' σ' H' (x1.trans x') R'⟩⟩
theorem Jb4 {i : Nat} {x : Str} {pos' : Pos} (hN : X.N.Nodup) (he : JE X a fa) (hi : X.N[i]? = some x := by rfl) (hx : Loc X.env.scope x := by first | exact Or.inl rfl | exact Or.inr rfl) (hs : swapsWith a (some (.Name x pos')) pos.line X.env = pure false := by rfl)
    (hf : X.fn x = true ∨ X.env.scope.names.lookup x = some .local := by first | exact .inl rfl | exact .inr rfl | assumption) : JS X (.Assign [.Name x pos'] a pos) (sSet i fa) := ⟨PS.imp (JAf hN hi hx he.pe hs hf) fun E σ H h => by
  obtain ⟨Γ,μ,env,S,fl,env',S',hK,R,e,q⟩ := h
  obtain ⟨⟨y,S1⟩,e1,e⟩ := bind_some e
  cases e
  exact ⟨Γ,μ,env,S,y,S1,hK,R,e1,fun v1 μ1 H1 x1 R1 r1 => q μ1 _ H1 x1 (R1.setv i r1)⟩⟩
theorem Jay {i : Nat} {x : Str} (hN : X.N.Nodup) (hi : X.N[i]? = some x := by rfl) (hx : Loc X.env.scope x := by first | exact Or.inl rfl | exact Or.inr rfl)
    (hf : X.fn x = true ∨ X.env.scope.names.lookup x = some .local := by first | exact .inl rfl | exact .inr rfl | assumption) : JG X (.Name x pos) (.nm i) := ⟨by rw [Pat.raw]; exact Jx9 hN hi hx hf⟩
theorem Jeq : JGs X [] [] := ⟨by rw [rawS]; exact Jx8⟩
theorem Jbn {e : Expr} {es : List Expr} {t : Pat} {u : List Pat} (h1 : JG X e t) (h2 : JGs X es u)
    (hs : (assignEach (e :: es) X.env).map (·.2) = assign e X.env :: (assignEach es X.env).map (·.2) := by rfl) : JGs X (e :: es) (t :: u) := ⟨by rw [rawS]; exact Juy h1.pg h2.pg hs⟩
theorem Jgo {es : List Expr} {k : Nat} {gs : List Pat} (hc : X.calm = true) (h : JGs X es gs) (hn : (assignEach es X.env).length = gs.length := by rfl) (hst : (assignEach es X.env).findIdx? (·.1) = none := by rfl) : JG X (.Tuple es k pos) (.tp gs) :=
  ⟨by rw [Pat.raw]; exact JAj hc h.pg hn hst⟩
theorem Jwk {tg : Expr} {gg : Pat} (he : JE X a fa) (hg : JG X tg gg) (hs : swapsWithSole [tg] a pos.line X.env = pure false := by rfl) (hw : swappedStores [tg] a X.env = pure none := by rfl)
    (h1 : (assignEach [tg] X.env).map (·.2) = [assign tg X.env] := by rfl) : JS X (.Assign [tg] a pos) (sAsg fa gg.sem) := ⟨PS.imp (Jwh he.pe hg.pg hs hw h1) fun E σ H h => by
  obtain ⟨Γ,μ,env,S,fl,env',S',hK,R,e,q⟩ := h
  obtain ⟨⟨y,S1⟩,e1,e⟩ := bind_some e
  obtain ⟨env1,e2,e⟩ := bind_some e
  cases e
  exact ⟨Γ,μ,env,S,y,S1,hK,R,e1,fun v1 μ1 H1 x1 R1 r1 => gg.run X.K R1 r1 e2 fun σ' R' => q μ1 σ' H1 x1 R'⟩⟩

theorem ItOk.ext {Γ : Fr} {μ μ' : Mu} {H H' : Hp} {J : It} {ds : List D} {w : List (Nat × List D)} (h : ItOk Γ μ H J ds w) (x : Ext μ H μ' H') : ItOk Γ μ' H' J ds w :=
  ⟨fun i d μ2 H2 σ2 e2 S2 hi x2 R2 c => h.step i d μ2 H2 σ2 e2 S2 hi (x.trans x2) R2 c,fun μ2 H2 σ2 e2 S2 x2 R2 c => h.stop μ2 H2 σ2 e2 S2 (x.trans x2) R2 c⟩
theorem Jg6 {tg iter : Expr} {body : List Stmt} {it : ISem} {gg : Pat} (hc : X.calm = true) (hi : JI X tg iter it) (hg : JG X tg gg) (hb : JSs X body f) (hp : PassesOwn (model X.prog X.w) X.A X.env X.xe)
    (hs : ∀ x,foldedSetIterable iter X.env x = pure x := by intro _; rfl) : JS X (.For tg iter body [] pos) (sFor it gg.sem f) := ⟨PS.imp (JAh hp hc hi.pi hg.pg hb.ps hs) fun E σ H h => by
  obtain ⟨Γ,μ,env,S,fl,env',S',hK,R,e,q⟩ := h
  obtain ⟨⟨⟨ds,w⟩,S1⟩,e1,e⟩ := bind_some e
  refine ⟨Γ,μ,env,S,ds,w,S1,hK,R,e1,fun J μ1 H1 x1 R1 ok => ?_⟩
  refine ⟨fun i m σ2 H2 => ∃ μ2 env2 S2,m = ds.length - i ∧ i ≤ ds.length ∧ Ext μ1 H1 μ2 H2 ∧ Rep Γ μ2 σ2 H2 env2 S2 ∧ loop w gg.sem f (ds.drop i) env2 S2 = some (fl,env',S'),⟨ds.length,μ1,env,S1,rfl,Nat.zero_le _,Ext.refl _ _,R1,by rw [List.drop_zero]; exact e⟩,?_⟩
  rintro i m σ2 H2 ⟨μ2,env2,S2,rfl,hi,x2,R2,el⟩
  by_cases hlt : i < ds.length
  · rw [List.drop_eq_getElem_cons hlt] at el
    unfold loop at el
    by_cases hcm : calm w S2
    · rw [if_pos hcm] at el
      obtain ⟨env3,e3,el⟩ := bind_some el
      obtain ⟨⟨fl4,env4,S4⟩,e4,el⟩ := bind_some el
      obtain ⟨go,yl⟩ := ok.step i ds[i] μ2 H2 σ2 env2 S2 (List.getElem?_eq_getElem hlt) x2 R2 hcm
      refine .inr ⟨go,fun σ5 H5 => ∃ μ5 env5 S5,Ext μ1 H1 μ5 H5 ∧ Rep Γ μ5 σ5 H5 env5 S5 ∧ loop w gg.sem f (ds.drop (i + 1)) env5 S5 = some (fl,env',S'),fun σ5 H5 ⟨μ5,env5,S5,x5,R5,e5⟩ => ⟨ds.length - (i + 1),by omega,μ5,env5,S5,rfl,hlt,x5,R5,e5⟩,fun x H3 y => ?_⟩
      obtain ⟨sm,rx⟩ := yl x H3 y
      obtain ⟨R3,x3⟩ := R2.grow sm
      refine gg.run X.K R3 rx e3 fun σ3 R3' => ?_
      refine ⟨Γ,μ2,env3,S2,fl4,env4,S4,hK,R3',e4,fun μ4 σ4 H4 x4 R4 => ?_⟩
      have x14 := x2.trans (x3.trans x4)
      dsimp only at el
      cases fl4 with
      | nx => exact ⟨μ4,env4,S4,x14,R4,el⟩
      | cnt => exact ⟨μ4,env4,S4,x14,R4,el⟩
      | brk => cases el; exact q μ4 σ4 H4 (x1.trans x14) R4
      | ret d => cases el; exact q μ4 σ4 H4 (x1.trans x14) R4
    · rw [if_neg hcm] at el; cases el
  · have hi' : i = ds.length := by omega
    subst hi'
    rw [List.drop_length] at el
    unfold loop at el
    by_cases hcm : calm w S2
    · rw [if_pos hcm] at el
      cases el
      exact .inl ⟨ok.stop μ2 H2 σ2 _ _ x2 R2 hcm,q μ2 σ2 H2 (x1.trans x2) R2⟩
    · rw [if_neg hcm] at el; cases el⟩
end
end VS
end
section
set_option Elab.async false
set_option maxRecDepth 10000
set_option linter.all false
namespace VS
open PySem PySem.Spec L2
theorem Rep.cap {Γ : Fr} {μ : Mu} {σ : St} {H : Hp} {env : Env} {S : Store} (R : Rep Γ μ σ H env S) (k : Nat) (caps : List Nat) : Rep Γ μ (capS k caps σ) H (capE k caps env) S := by
  refine ⟨fun i d h => ?_,?_,R.sto,R.liv,R.inj,R.slen,R.ent,R.new⟩
  · unfold capE at h
    by_cases hi : i < k
    · rw [List.getElem?_append_left (by simpa using hi),List.getElem?_replicate,if_pos hi] at h
      cases h
    · rw [List.getElem?_append_right (by simpa using hi),List.length_replicate,List.getElem?_map] at h
      cases e : caps[i - k]? with
      | none => rw [e] at h; cases h
      | some a =>
        rw [e] at h
        have h' : (env[a]?).join = some d := Option.some.inj h
        have h2 : env[a]? = some (some d) := by
          cases q : env[a]? with
          | none => rw [q] at h'; cases h'
          | some o => rw [q] at h'; exact congrArg some h'
        obtain ⟨v,h3,h4⟩ := R.vals a d h2
        refine ⟨v,?_,h4⟩
        unfold capS
        rw [List.getElem?_append_right (by simpa using hi),List.length_replicate,List.getElem?_map,e]
        show some (σ[a]?).join = some (some v)
        rw [h3]; rfl
  · unfold capS capE
    rw [List.length_append,List.length_append,List.length_map,List.length_map,List.length_replicate,List.length_replicate]

section
variable {X : Cx}
theorem Jrf {K : PySem.W.Frag} {k : Nat} {caps : List Nat} {it : ISem} {p : Pat} {t : TSem} {f : ESem} {σ : St} {H : Hp} {Q : VK} (h : ∃ Γ μ env S ys S',Γ.K = K ∧ Rep Γ μ σ H env S ∧ Jcs k caps it p.sem t f env S = some (ys,S') ∧
    ∀ xs μ' H',Ext μ H μ' H' → Rep Γ μ' σ H' env S' → VRs Γ μ' H' xs ys → ∀ q,H' q = none → Q (.ref q) (upd H' q (.lst xs))) : Jxk k caps (wpI K it) (p.raw K) (wpT K t) (wpE K f) σ H Q := by
  obtain ⟨Γ,μ,env,S,ys,S',hK,R,e,q⟩ := h
  obtain ⟨⟨⟨ds,w⟩,S1⟩,e1,e⟩ := bind_some e
  refine ⟨Γ,μ,env,S,ds,w,S1,hK,R,e1,fun J μ1 H1 x1 R1 ok => ?_⟩
  refine ⟨fun i m zs H2 => ∃ μ2 S2 dzs,m = ds.length - i ∧ i ≤ ds.length ∧ Ext μ1 H1 μ2 H2 ∧ Rep Γ μ2 σ H2 env S2 ∧ VRs Γ μ2 H2 zs dzs ∧ Jf0 w (capE k caps env) p.sem t f (ds.drop i) dzs S2 = some (ys,S'),
    ⟨ds.length,μ1,S1,[],rfl,Nat.zero_le _,Ext.refl _ _,R1,.nil,by rw [List.drop_zero]; exact e⟩,?_⟩
  rintro i m zs H2 ⟨μ2,S2,dzs,rfl,hi,x2,R2,rz,el⟩
  by_cases hlt : i < ds.length
  · rw [List.drop_eq_getElem_cons hlt] at el
    unfold Jf0 at el
    by_cases hcm : calm w S2 ∧ dzs.length ≤ 1000000
    · rw [if_pos hcm] at el
      obtain ⟨env3,e3,el⟩ := bind_some el
      obtain ⟨⟨b,S4⟩,e4,el⟩ := bind_some el
      have R2c := R2.cap k caps
      obtain ⟨go,yl⟩ := ok.step i ds[i] μ2 H2 _ _ S2 (List.getElem?_eq_getElem hlt) x2 R2c hcm.1
      refine .inr ⟨go,by rw [rz.length]; exact big hcm.2,fun x H3 y => ?_⟩
      obtain ⟨sm,rx⟩ := yl x H3 y
      obtain ⟨R3,x3⟩ := R2c.grow sm
      obtain ⟨R3o,_⟩ := R2.grow sm
      refine p.run K R3 rx e3 fun σ3 R3' => ?_
      refine ⟨Γ,μ2,env3,S2,b,S4,hK,R3',e4,fun μ4 H4 x4 R4 => ?_⟩
      dsimp only at el
      by_cases hb : b = true
      · rw [if_pos hb] at el ⊢
        obtain ⟨⟨d5,S5⟩,e5,el⟩ := bind_some el
        refine ⟨Γ,μ4,env3,S4,d5,S5,hK,R4,e5,fun v μ5 H5 x5 R5 r5 => ?_⟩
        exact ⟨ds.length - (i + 1),by omega,μ5,S5,dzs ++ [d5],rfl,hlt,x2.trans (x3.trans (x4.trans x5)),R3o.back (x4.trans x5) R5,((rz.ext (x3.trans (x4.trans x5)))).append (.cons r5 .nil),el⟩
      · rw [if_neg hb] at el ⊢
        exact ⟨ds.length - (i + 1),by omega,μ4,S4,dzs,rfl,hlt,x2.trans (x3.trans x4),R3o.back x4 R4,rz.ext (x3.trans x4),el⟩
    · rw [if_neg hcm] at el; cases el
  · have hi' : i = ds.length := by omega
    subst hi'
    rw [List.drop_length] at el
    unfold Jf0 at el
    by_cases hcm : calm w S2 ∧ dzs.length ≤ 1000000
    · rw [if_pos hcm] at el
      cases el
      exact .inl ⟨ok.stop μ2 H2 σ env _ x2 R2 hcm.1,fun p hp => q zs μ2 H2 (x1.trans x2) R2 rz p hp⟩
    · rw [if_neg hcm] at el; cases el

structure JC (X : Cx) (N2 : List Str) (scope : Scope) (tg : Expr) (ifs : List Expr) (elt : Expr) (p : Pat) (t : TSem) (f : ESem) : Prop where
  all : ∀ (cl : List (Str × Addr)) (C : Addr) (s : Shared) (H : Hp) (ex : List Addr),JG (Jc0 X N2 scope cl C s H ex) tg p ∧ JTs (Jc0 X N2 scope cl C s H ex) ifs t ∧ JE (Jc0 X N2 scope cl C s H ex) elt f
theorem Jck {elt tg iter : Expr} {ifs : List Expr} {scope : Scope} {pos : Pos} {N2 : List Str} {k : Nat} {caps : List Nat} {it : ISem} {p : Pat} {t : TSem} {f : ESem}
    (hc : X.calm = true) (hS : Jcw X.env.scope X.N N2 k caps scope) (hlow : p.low k = true) (hi : JI X tg iter it) (hb : JC X N2 scope tg ifs elt p t f)
    (hs : ∀ x,foldedSetIterable iter X.env x = pure x := by intro _; rfl) : JE X (.ListComp elt [⟨tg,iter,ifs,0⟩] scope pos) (eFrz (Jcs k caps it p.sem t f)) :=
  ⟨PE.imp (Jya hc hS (p.Jy3 X.K hlow) hi.pi (fun cl C s H ex => let ⟨a,b,c⟩ := hb.all cl C s H ex; ⟨a.pg,b.pt,c.pe⟩) hs) fun σ H Q h => by
    obtain ⟨Γ,μ,env,S,d,S',hK,R,e,q⟩ := h
    obtain ⟨⟨ys,S1⟩,e1,e⟩ := bind_some e
    cases e
    refine Jrf ⟨Γ,μ,env,S,ys,S1,hK,R,e1,fun xs μ1 H1 x1 R1 r1 z hz => ?_⟩
    obtain ⟨R2,x2⟩ := R1.grow (Jbt hz (.lst xs))
    exact q _ μ1 _ (x1.trans x2) R2 (.lst (R1.ok hz true) (R1.dead hz) Ja6 (r1.ext x2))⟩
theorem Jkb {elt tg iter : Expr} {ifs : List Expr} {scope : Scope} {pos py spos : Pos} {N2 : List Str} {k i : Nat} {y : Str} {caps : List Nat} {it : ISem} {p : Pat} {t : TSem} {f : ESem}
    (hc : X.calm = true) (hN : X.N.Nodup) (hS : Jcw X.env.scope X.N N2 k caps scope) (hlow : p.low k = true) (hi : JI X tg iter it) (hb : JC X N2 scope tg ifs elt p t f) (hi' : X.N[i]? = some y := by rfl)
    (hx : X.env.scope.names.lookup y = some .local := by rfl) (hsw : swapsWith (.ListComp elt [⟨tg,iter,ifs,0⟩] scope pos) (some (.Name y py)) spos.line X.env = pure true := by rfl)
    (hs : ∀ x,foldedSetIterable iter X.env x = pure x := by intro _; rfl) : JS X (.Assign [.Name y py] (.ListComp elt [⟨tg,iter,ifs,0⟩] scope pos) spos) (sSet i (eFrz (Jcs k caps it p.sem t f))) :=
  ⟨PS.imp (Jx2 hc hN hi' hS (p.Jy3 X.K hlow) hi.pi (fun cl C s H ex => let ⟨a,b,c⟩ := hb.all cl C s H ex; ⟨a.pg,b.pt,c.pe⟩) hx hsw hs) fun E σ H h => by
    obtain ⟨Γ,μ,env,S,fl,env',S',hK,R,e,q⟩ := h
    obtain ⟨⟨d,S1⟩,e1,e⟩ := bind_some e
    cases e
    obtain ⟨⟨ys,S2⟩,e2,e1⟩ := bind_some e1
    cases e1
    refine Jrf ⟨Γ,μ,env,S,ys,_,hK,R,e2,fun xs μ1 H1 x1 R1 r1 z hz => ?_⟩
    obtain ⟨R2,x2⟩ := R1.grow (Jbt hz (.lst xs))
    exact q μ1 _ _ (x1.trans x2) (R2.setv i (.lst (R1.ok hz true) (R1.dead hz) Ja6 (r1.ext x2)))⟩
end

def listOf (S : Store) : D → Option (List D)
  | .lst _ ds => some ds
  | .ref i => (S[i]?).join
  | _ => none
def Jav (S : Store) : D → Option (List D)
  | .tup ds => some ds
  | .scr ns => some (ns.map .int)
  | d => listOf S d
def idOf (ds : List D) : D → List (Nat × List D)
  | .ref i => [(i,ds)]
  | _ => []
section
variable {Γ : Fr} {μ : Mu} {σ : St} {H : Hp} {env : Env} {S : Store} {v : V} {d : D} {ds : List D}
theorem join_some {α : Type} {a : Option (Option α)} {b : α} (h : a.join = some b) : a = some (some b) := by
  cases a with
  | none => cases h
  | some o => exact congrArg some h
theorem VR.list (R : Rep Γ μ σ H env S) (r : VR Γ μ H v d) (h : listOf S d = some ds) : ∃ a xs,v = .ref a ∧ H a = some (.lst xs) ∧ VRs Γ μ H xs ds := by
  cases r with
  | lst o n hb rs => cases h; exact ⟨_,_,rfl,hb,rs⟩
  | @ref i v hi f =>
    obtain ⟨a,xs,h1,h2,h3⟩ := R.sto i ds (join_some h)
    exact ⟨a,xs,f a h1,h2,h3⟩
  | _ => cases h
theorem VR.seq (hK : Γ.K = K) (R : Rep Γ μ σ H env S) (r : VR Γ μ H v d) (h : Jav S d = some ds) : ∃ a xs,v = .ref a ∧ (SqL K H a xs ∨ SqT K H a xs) ∧ VRs Γ μ H xs ds := by
  subst hK
  cases d with
  | tup es => cases r with | tup hb rs => cases h; exact ⟨_,_,rfl,.inr (SqT.of hb),rs⟩
  | scr ns =>
    cases h
    cases r with
    | scrK hk => exact ⟨_,_,rfl,.inl (hk H),VRs.ints ns⟩
    | scrR n hb => exact ⟨_,_,rfl,.inl (.inl (.inr ⟨_,hb⟩)),VRs.ints ns⟩
  | lst m es => obtain ⟨a,xs,e1,e2,e3⟩ := VR.list R r h; exact ⟨a,xs,e1,.inl (SqL.of e2),e3⟩
  | ref i => obtain ⟨a,xs,e1,e2,e3⟩ := VR.list R r h; exact ⟨a,xs,e1,.inl (SqL.of e2),e3⟩
  | _ => cases h
end

def iSeq (a : ESem) : ISem := fun env S => (a env S).bind fun p => (Jav p.2 p.1).map fun ds => ((ds,idOf ds p.1),p.2)
section
variable {X : Cx} {tg : Expr}
def JCl (K : PySem.W.Frag) (tl : TE) : TI := fun σ H R => tl σ H fun x H1 => ∃ a,x = .ref a ∧ (((∃ xs,SqL K H1 a xs) ∧ R (Itl K a) H1) ∨ ((∃ xs,SqT K H1 a xs) ∧ R (Itt K a) H1))
theorem JAi {l : Expr} {tl : TE} (hl : PE X l tl) : PI X tg l (JCl X.K tl) := by
  intro pins s σ H R I h
  refine thn (hl pins s σ H _ I h) fun v s1 ⟨x,H1,I1,r1,q1⟩ => ?_
  obtain ⟨a,e,⟨⟨xs,hq⟩,q⟩ | ⟨⟨xs,hq⟩,q⟩⟩ := q1
  · subst e
    cases r1
    obtain ⟨its,rv,p,hz⟩ := I1.list hq
    refine wpAny_pyIter_list p.isList ?_
    refine ⟨s1.heap.objs.size,[s1.heap.objs.size],_,_,H1,rfl,I1.kept (t' := s1.toks) fun b o e => Heap.get?_push_of_some _ e,Jrh a _,⟨_,Heap.get?_push_size _ rfl,rfl,rfl⟩,fun b hb => ?_,q⟩
    have e : b = s1.heap.objs.size := by simpa using hb
    subst e
    exact I1.fpOk (Nat.le_refl _) (I1.hok.fresh (Nat.le_refl _))
  · subst e
    cases r1
    obtain ⟨its,rv,p,hz⟩ := I1.tuple hq
    refine wpAny_pyIter_tuple (show s1.heap.IsTuple a its.toArray from p) ?_
    refine ⟨s1.heap.objs.size,[s1.heap.objs.size],_,_,H1,rfl,I1.kept (t' := s1.toks) fun b o e => Heap.get?_push_of_some _ e,Jqn a _,⟨_,Heap.get?_push_size _ rfl,rfl,rfl⟩,fun b hb => ?_,q⟩
    have e : b = s1.heap.objs.size := by simpa using hb
    subst e
    exact I1.fpOk (Nat.le_refl _) (I1.hok.fresh (Nat.le_refl _))
theorem Jrq {d : D} {ds : List D} {S S' : Store} (h : Jav S d = some ds) (c : calm (idOf ds d) S') : Jav S' d = some ds := by
  cases d with
  | ref i =>
    have c' : S'[i]? = some (some ds) := c (i,ds) (List.mem_singleton.mpr rfl)
    show (S'[i]?).join = some ds
    rw [c']; rfl
  | _ => exact h
theorem VR.seqL {K : PySem.W.Frag} {Γ : Fr} {μ : Mu} {σ : St} {H : Hp} {env : Env} {S : Store} {v : V} {d : D} {ds : List D} (hK : Γ.K = K) (R : Rep Γ μ σ H env S) (r : VR Γ μ H v d) (h : Jav S d = some ds) : (∃ es,d = .tup es) ∨ ∃ a xs,v = .ref a ∧ SqL K H a xs ∧ VRs Γ μ H xs ds := by
  subst hK
  cases d with
  | tup es => exact .inl ⟨es,rfl⟩
  | scr ns =>
    cases h
    cases r with
    | scrK hk => exact .inr ⟨_,_,rfl,hk H,VRs.ints ns⟩
    | scrR n hb => exact .inr ⟨_,_,rfl,.inl (.inr ⟨_,hb⟩),VRs.ints ns⟩
  | lst m es => obtain ⟨a,xs,e1,e2,e3⟩ := VR.list R r h; exact .inr ⟨a,xs,e1,SqL.of e2,e3⟩
  | ref i => obtain ⟨a,xs,e1,e2,e3⟩ := VR.list R r h; exact .inr ⟨a,xs,e1,SqL.of e2,e3⟩
  | _ => cases h
theorem Jyx {Γ : Fr} {μ : Mu} {H : Hp} {a : Addr} {ds : List D} {K : PySem.W.Frag} {w : List (Nat × List D)} (hr : ∀ μ' H' σ' env' S',Ext μ H μ' H' → Rep Γ μ' σ' H' env' S' → calm w S' → ∃ xs,SqL K H' a xs ∧ VRs Γ μ' H' xs ds) : ItOk Γ μ H (Itl K a) ds w := by
  refine ⟨fun i d μ' H' σ' env' S' hi x R c => ?_,fun μ' H' σ' env' S' x R c => ?_⟩
  · obtain ⟨xs,h1,h2⟩ := hr μ' H' σ' env' S' x R c
    obtain ⟨y,e1,e2⟩ := h2.get hi
    refine ⟨⟨xs,y,h1,e1⟩,fun z H'' yl => ?_⟩
    obtain ⟨e,f⟩ := yl
    subst e
    have := f xs h1
    rw [e1] at this; cases this
    exact ⟨Same.refl _,e2⟩
  · obtain ⟨xs,h1,h2⟩ := hr μ' H' σ' env' S' x R c
    exact ⟨xs,h1,by rw [h2.length]; exact Nat.le_refl _⟩
theorem Jwm {Γ : Fr} {μ : Mu} {H : Hp} {a : Addr} {ds : List D} {K : PySem.W.Frag} {w : List (Nat × List D)} (hr : ∀ μ' H' σ' env' S',Ext μ H μ' H' → Rep Γ μ' σ' H' env' S' → calm w S' → ∃ xs,SqT K H' a xs ∧ VRs Γ μ' H' xs ds) : ItOk Γ μ H (Itt K a) ds w := by
  refine ⟨fun i d μ' H' σ' env' S' hi x R c => ?_,fun μ' H' σ' env' S' x R c => ?_⟩
  · obtain ⟨xs,h1,h2⟩ := hr μ' H' σ' env' S' x R c
    obtain ⟨y,e1,e2⟩ := h2.get hi
    refine ⟨⟨xs,y,h1,e1⟩,fun z H'' yl => ?_⟩
    obtain ⟨e,f⟩ := yl
    subst e
    have := f xs h1
    rw [e1] at this; cases this
    exact ⟨Same.refl _,e2⟩
  · obtain ⟨xs,h1,h2⟩ := hr μ' H' σ' env' S' x R c
    exact ⟨xs,h1,by rw [h2.length]; exact Nat.le_refl _⟩
theorem Jdn {l : Expr} {f : ESem} (hl : JE X l f) : JI X tg l (iSeq f) := ⟨PI.imp (JAi hl.pe) fun σ H Q h => by
  obtain ⟨Γ,μ,env,S,ds,w,S',hK,R,e,q⟩ := h
  obtain ⟨⟨d,S1⟩,e1,e⟩ := bind_some e
  obtain ⟨ds',e2,e⟩ := map_some e
  cases e
  refine ⟨Γ,μ,env,S,d,S1,hK,R,e1,fun v μ1 H1 x1 R1 r1 => ?_⟩
  rcases VR.seqL hK R1 r1 e2 with ⟨es,rfl⟩ | ⟨a,xs,rfl,hq,rs⟩
  · cases r1 with
    | @tup a xs _ hb rs =>
      refine ⟨a,rfl,.inr ⟨⟨xs,SqT.of hb⟩,q _ μ1 H1 x1 R1 (Jwm fun μ' H' σ' env' S' x' R' c => ?_)⟩⟩
      have e2' : es = ds := Option.some.inj e2
      subst e2'
      exact ⟨xs,SqT.of (x'.tups _ _ hb),rs.ext x'⟩
  · by_cases ht : ∃ es,d = .tup es
    · obtain ⟨es,rfl⟩ := ht
      cases r1 with
      | @tup b ys _ hb rs' =>
        refine ⟨a,rfl,.inr ⟨⟨ys,SqT.of hb⟩,q _ μ1 H1 x1 R1 (Jwm fun μ' H' σ' env' S' x' R' c => ?_)⟩⟩
        have e2' : es = ds := Option.some.inj e2
        subst e2'
        exact ⟨ys,SqT.of (x'.tups _ _ hb),rs'.ext x'⟩
    · refine ⟨a,rfl,.inl ⟨⟨xs,hq⟩,q _ μ1 H1 x1 R1 (Jyx fun μ' H' σ' env' S' x' R' c => ?_)⟩⟩
      rcases VR.seqL hK R' (r1.ext x') (Jrq e2 c) with z | ⟨b,ys,e,h1,h2⟩
      · exact absurd z ht
      · cases e
        exact ⟨ys,h1,h2⟩⟩
def upD (lo : Int) (n : Nat) : List D := (List.range n).map fun (i : Nat) => .int (lo + i)
theorem Jvl {Γ : Fr} {μ : Mu} {H : Hp} (lo : Int) (n : Nat) : ItOk Γ μ H (Itr lo n) (upD lo n) [] := by
  have len : (upD lo n).length = n := by unfold upD; rw [List.length_map,List.length_range]
  refine ⟨fun i d μ' H' σ' env' S' hi x R c => ?_,fun μ' H' σ' env' S' x R c => ?_⟩
  · have hi' : i < n := by rw [← len]; exact (List.getElem?_eq_some_iff.mp hi).1
    refine ⟨hi',fun y H'' yl => ?_⟩
    obtain ⟨e1,e2⟩ := yl
    subst e1 e2
    unfold upD at hi
    rw [List.getElem?_map,List.getElem?_range hi'] at hi
    cases hi
    exact ⟨Same.refl _,.int _⟩
  · show n ≤ (upD lo n).length
    rw [len]; exact Nat.le_refl _
def r62 (j : Int) : Prop := -(2 ^ 62) ≤ j ∧ j < 2 ^ 62
instance (j : Int) : Decidable (r62 j) := by unfold r62; infer_instance
def Jc5 (a : ASem) : ISem := fun env S => (a env S).bind fun p => match p.1 with | [.int j] => if r62 j then some ((upD 0 j.toNat,[]),p.2) else none | _ => none
theorem VRs.one {Γ : Fr} {μ : Mu} {H : Hp} {vs : List V} {d : D} (h : VRs Γ μ H vs [d]) : ∃ v,vs = [v] ∧ VR Γ μ H v d := by
  cases h with | cons r t => cases t; exact ⟨_,rfl,r⟩
theorem VRs.two {Γ : Fr} {μ : Mu} {H : Hp} {vs : List V} {d e : D} (h : VRs Γ μ H vs [d,e]) : ∃ v u,vs = [v,u] ∧ VR Γ μ H v d ∧ VR Γ μ H u e := by
  cases h with | cons r t => cases t with | cons r' t => cases t; exact ⟨_,_,rfl,r,r'⟩
theorem Jen {a : Expr} {f : ASem} {p pos : Pos} (hg : Gl X "range") (hm : X.mg "range" = none) (ha : JA X [a] f) (hs : starEach [a] X.env = [(false,eval a X.env)] := by rfl) : JI X tg (.Call (.Name "range" p) [a] [] pos) (Jc5 f) :=
  ⟨PI.imp (Jsb hg hm ha.pa hs) fun σ H Q h => by
    obtain ⟨Γ,μ,env,S,ds,w,S',hK,R,e,q⟩ := h
    obtain ⟨⟨d,S1⟩,e1,e⟩ := bind_some e
    refine ⟨Γ,μ,env,S,d,S1,hK,R,e1,fun v μ1 H1 x1 R1 r1 => ?_⟩
    dsimp only at e
    split at e
    · rename_i j
      by_cases hj : r62 j
      · rw [if_pos hj] at e
        cases e
        obtain ⟨v,rfl,r⟩ := r1.one
        cases r
        exact ⟨j,rfl,hj.1,hj.2,q _ μ1 H1 x1 R1 (Jvl 0 _)⟩
      · rw [if_neg hj] at e; cases e
    · cases e⟩
end
end VS
end
section
set_option Elab.async false
set_option maxRecDepth 10000
set_option linter.all false
namespace VS
open PySem PySem.Spec L2
section
variable {X : Cx} {tg : Expr}
def zipD : List D → List D → List D
  | x :: xs,y :: ys => .tup [x,y] :: zipD xs ys
  | _,_ => []
def JDz (a : ASem) : ISem := fun env S => (a env S).bind fun p => match p.1 with
  | [.tup xs,.tup ys] => some ((zipD xs ys,[]),p.2)
  | [x,y] => (listOf p.2 x).bind fun xs => (listOf p.2 y).bind fun ys => some ((zipD xs ys,idOf xs x ++ idOf ys y),p.2)
  | _ => none
theorem Jlf {d : D} {ds : List D} {S S' : Store} (h : listOf S d = some ds) (c : calm (idOf ds d) S') : listOf S' d = some ds := by
  cases d with
  | ref i =>
    have c' : S'[i]? = some (some ds) := c (i,ds) (List.mem_singleton.mpr rfl)
    show (S'[i]?).join = some ds
    rw [c']; rfl
  | _ => exact h
theorem PI.or {e : Expr} {t u : TI} (h : PI X tg e t) (k : PI X tg e u) : PI X tg e (fun σ H R => t σ H R ∨ u σ H R) := fun pins s σ H R I q => q.elim (fun z => h pins s σ H R I z) fun z => k pins s σ H R I z
def Jjp (n : Nat) : List D → List D
  | [] => []
  | x :: xs => .tup [.int n,x] :: Jjp (n + 1) xs
theorem Jn5 : ∀ {xs : List D} {n i : Nat} {d : D},(Jjp n xs)[i]? = some d → ∃ x,xs[i]? = some x ∧ d = .tup [.int ((n + i : Nat) : Int),x]
  | [],_,_,_,h => by simp [Jjp] at h
  | x :: xs,n,0,d,h => by simp [Jjp] at h; exact ⟨x,rfl,h.symm⟩
  | x :: xs,n,i + 1,d,h => by
    simp [Jjp] at h
    obtain ⟨y,h1,h2⟩ := Jn5 h
    exact ⟨y,by simpa using h1,by rw [h2,show n + 1 + i = n + (i + 1) by omega]⟩
theorem Jn4 : ∀ (xs : List D) (n : Nat),(Jjp n xs).length = xs.length
  | [],_ => rfl
  | _ :: xs,n => by rw [Jjp,List.length_cons,List.length_cons,Jn4 xs]
def Jqb (a : ASem) : ISem := fun env S => (a env S).bind fun p => match p.1 with
  | [x] => (listOf p.2 x).bind fun xs => some ((Jjp 0 xs,idOf xs x),p.2)
  | _ => none
theorem Jyt {a : Expr} {f : ASem} {p pos : Pos} {elts : List Expr} {x1 : Nat} {tpos : Pos} (hg : Gl X "enumerate") (hm : X.mg "enumerate" = none) (ha : JA X [a] f) (hs : starEach [a] X.env = [(false,eval a X.env)] := by rfl) :
    JI X (.Tuple elts x1 tpos) (.Call (.Name "enumerate" p) [a] [] pos) (Jqb f) :=
  ⟨PI.imp (Jx7 hg hm ha.pa hs) fun σ H Q h => by
    obtain ⟨Γ,μ,env,S,ds,w,S',hK,R,e,q⟩ := h
    obtain ⟨⟨d,S1⟩,e1,e⟩ := bind_some e
    dsimp only at e
    split at e
    · rename_i x
      obtain ⟨xs,e2,e⟩ := bind_some e
      cases e
      refine ⟨Γ,μ,env,S,_,_,hK,R,e1,fun v μ1 H1 x1 R1 r1 => ?_⟩
      obtain ⟨u,rfl,r⟩ := r1.one
      obtain ⟨a,us,rfl,ha,ra⟩ := VR.list R1 r e2
      refine ⟨a,rfl,⟨us,SqL.of ha⟩,q _ μ1 H1 x1 R1 ⟨fun i d μ' H' σ' env' S' hi x' R' c => ?_,fun μ' H' σ' env' S' x' R' c => ?_⟩⟩
      · obtain ⟨a',us',e4,ha',ra'⟩ := VR.list R' (r.ext x') (Jlf e2 c)
        cases e4
        obtain ⟨y,f1,rfl⟩ := Jn5 hi
        obtain ⟨z,g1,g2⟩ := ra'.get f1
        refine ⟨⟨us',z,SqL.of ha',g1⟩,fun y' H'' yl => ?_⟩
        obtain ⟨t,z',ht,rfl,rfl,k⟩ := yl
        have k' := k us' (SqL.of ha')
        rw [g1] at k'; cases k'
        have sm := Jbt ht (.tup [.int i,z])
        obtain ⟨_,x2⟩ := R'.grow sm
        refine ⟨sm,.tup Ja6 (.cons ?_ (.cons (g2.ext x2) .nil))⟩
        rw [Nat.zero_add]
        exact .int _
      · obtain ⟨a',us',e4,ha',ra'⟩ := VR.list R' (r.ext x') (Jlf e2 c)
        cases e4
        exact ⟨us',SqL.of ha',by rw [ra'.length,Jn4]; exact Nat.le_refl _⟩
    · cases e⟩

def SemM (K : PySem.W.Frag) (r : V → List V → Hp → VK → Prop) (g : Store → D → List D → Option (D × Store)) : Prop := ∀ (Γ : Fr) (μ : Mu) (σ : St) (H : Hp) (env : Env) (S : Store) (x : V) (xs : List V) (dx : D) (ds : List D) (d : D) (S' : Store),Γ.K = K → Rep Γ μ σ H env S → VR Γ μ H x dx → VRs Γ μ H xs ds → g S dx ds = some (d,S') →
  ∀ Q : VK,(∀ v μ' H',Ext μ H μ' H' → Rep Γ μ' σ H' env S' → VR Γ μ' H' v d → Q v H') → r x xs H Q
def Jjr (g : Store → D → List D → Option (D × Store)) (o : ESem) (a : ASem) : ESem := fun env S => (o env S).bind fun p => if (listOf p.2 p.1).isSome then (a env p.2).bind fun q => g q.2 p.1 q.1 else none
theorem Jxc {K : PySem.W.Frag} {r : V → List V → Hp → VK → Prop} {g : Store → D → List D → Option (D × Store)} {o : ESem} {a : ASem} (hs : SemM K r g) {σ : St} {H : Hp} {Q : VK} (h : wpE K (Jjr g o a) σ H Q) : tBM K "list" r (wpE K o) (wpA K a) σ H Q := by
  obtain ⟨Γ,μ,env,S,d,S',hK,R,e,q⟩ := h
  obtain ⟨⟨x,S1⟩,e1,e⟩ := bind_some e
  refine ⟨Γ,μ,env,S,x,S1,hK,R,e1,fun v1 μ1 H1 x1 R1 r1 => ?_⟩
  dsimp only at e
  by_cases hl : (listOf S1 x).isSome = true
  · rw [if_pos hl] at e
    obtain ⟨⟨ds,S2⟩,e2,e⟩ := bind_some e
    obtain ⟨xs,hx⟩ := Option.isSome_iff_exists.mp hl
    obtain ⟨b,us,rfl,hb,rb⟩ := VR.list R1 r1 hx
    refine ⟨.inl ⟨rfl,us,SqL.of hb⟩,Γ,μ1,env,S1,ds,S2,hK,R1,e2,fun vs μ2 H2 x2 R2 r2 => ?_⟩
    exact hs Γ μ2 σ H2 env S2 _ vs x ds d S' hK R2 (r1.ext x2) r2 e Q fun v μ' H' x' R' rv => q v μ' H' (x1.trans (x2.trans x')) R' rv
  · rw [if_neg hl] at e; cases e
variable {o e : Expr} {es : List Expr} {fo : ESem} {fa : ASem} {name : Str} {apos cpos : Pos} {id : String} {r : V → List V → Hp → VK → Prop} {g : Store → D → List D → Option (D × Store)}
theorem Jkc (pa : PlainAttrs "list") (slot : Slot "list" name id) (hty : typeOf (.builtin id) = pure (.type "method_descriptor")) (hm : MtR X id r) (hsm : SemM X.K r g) (ho : JE X o fo) (ha : JA X (e :: es) fa)
    (hbase : attributeBase o name X.env (eval o X.env) = eval o X.env := by rfl)
    (hfew : ((backTo cpos (starEach (e :: es) X.env)).all (fun x => !x.1) && (backToKw cpos (keywordEach [] X.env)).all (fun x => x.1.isSome)
      && decide ((e :: es).length + ([] : List Keyword).length + (if ([] : List Keyword).isEmpty then 0 else 1) < 30)) = true := by rfl)
    (hline : (apos.endLine == cpos.line) = true := by rfl) (hs : starEach (e :: es) X.env = (false,eval e X.env) :: starEach es X.env := by rfl) (hplain : (backTo cpos (starEach es X.env)).any (·.1) = false := by rfl) :
    JE X (.Call (.Attribute o name apos) (e :: es) [] cpos) (Jjr g fo fa) :=
  ⟨PE.imp (JC1 pa slot hty hm ho.pe ha.pa hbase hfew hline hs hplain) fun _ _ _ h => Jxc hsm h⟩
theorem VR.refI {Γ : Fr} {μ : Mu} {σ : St} {H : Hp} {env : Env} {S : Store} {v : V} {i : Nat} {ds : List D} (R : Rep Γ μ σ H env S) (r : VR Γ μ H v (.ref i)) (h : S[i]? = some (some ds)) : ∃ a xs,v = .ref a ∧ μ[i]? = some (some a) ∧ H a = some (.lst xs) ∧ VRs Γ μ H xs ds := by
  cases r with
  | ref hi f =>
    obtain ⟨a,xs,h1,h2,h3⟩ := R.sto i ds h
    exact ⟨a,xs,f a h1,h1,h2,h3⟩
def Jfe (S : Store) : D → List D → Option (D × Store)
  | .ref i,[d] => match S[i]? with
    | some (some ds) => if ds.length < 1000000 then some (.non,S.set i (some (ds ++ [d]))) else none
    | _ => none
  | _,_ => none
theorem Jjz {K : PySem.W.Frag} : SemM K Jr4 Jfe := by
  intro Γ μ σ H env S x xs dx ds d S' hK R rx rs e Q q
  unfold Jfe at e
  split at e
  · rename_i i d1
    split at e
    · rename_i es he
      by_cases hl : es.length < 1000000
      · rw [if_pos hl] at e
        cases e
        obtain ⟨a,us,rfl,h1,h2,h3⟩ := VR.refI R rx he
        obtain ⟨y,rfl,ry⟩ := rs.one
        obtain ⟨R2,x2⟩ := R.put h1 (h3.append (.cons ry .nil))
        exact ⟨a,us,y,rfl,rfl,h2,by rw [h3.length]; exact big (Nat.le_of_lt hl),q _ μ _ x2 R2 .non⟩
      · rw [if_neg hl] at e; cases e
    · cases e
  · cases e
def Jj8 (S : Store) : D → List D → Option (D × Store)
  | .ref i,[y] => match S[i]?,listOf S y with
    | some (some ds),some es => if ds.length + es.length ≤ 1000000 then some (.non,S.set i (some (ds ++ es))) else none
    | _,_ => none
  | _,_ => none
theorem Jro {K : PySem.W.Frag} : SemM K Jr3 Jj8 := by
  intro Γ μ σ H env S x xs dx ds d S' hK R rx rs e Q q
  unfold Jj8 at e
  split at e
  · rename_i i y
    split at e
    · rename_i es gs he hg
      by_cases hl : es.length + gs.length ≤ 1000000
      · rw [if_pos hl] at e
        cases e
        obtain ⟨a,us,rfl,h1,h2,h3⟩ := VR.refI R rx he
        obtain ⟨y,rfl,ry⟩ := rs.one
        obtain ⟨b,vs,rfl,hb,rb⟩ := VR.list R ry hg
        obtain ⟨R2,x2⟩ := R.put h1 (h3.append rb)
        exact ⟨a,b,us,vs,rfl,rfl,h2,hb,by rw [h3.length,rb.length]; exact Nat.le_of_lt (big hl),q _ μ _ x2 R2 .non⟩
      · rw [if_neg hl] at e; cases e
    · cases e
  · cases e
def Jle (S : Store) : D → List D → Option (D × Store)
  | .ref i,[.int k] => match S[i]? with
    | some (some ds) => if -(2 ^ 63) ≤ k ∧ k < 2 ^ 63 then (PySem.seqIndex? k ds.length).bind fun j => (ds[j]?).bind fun d => some (d,S.set i (some (ds.eraseIdx j))) else none
    | _ => none
  | _,_ => none
theorem Jui {K : PySem.W.Frag} : SemM K Jwg Jle := by
  intro Γ μ σ H env S x xs dx ds d S' hK R rx rs e Q q
  unfold Jle at e
  split at e
  · rename_i i k
    split at e
    · rename_i es he
      by_cases hl : -(2 ^ 63) ≤ k ∧ k < 2 ^ 63
      · rw [if_pos hl] at e
        obtain ⟨j,e2,e⟩ := bind_some e
        obtain ⟨d',e3,e⟩ := bind_some e
        cases e
        obtain ⟨a,us,rfl,h1,h2,h3⟩ := VR.refI R rx he
        obtain ⟨y,rfl,ry⟩ := rs.one
        cases ry
        obtain ⟨u,f1,f2⟩ := h3.get e3
        obtain ⟨R2,x2⟩ := R.put h1 (h3.eraseIdx j)
        exact ⟨a,us,k,j,u,rfl,rfl,h2,hl.1,hl.2,by rw [h3.length]; exact e2,f1,q _ μ _ x2 R2 (f2.ext x2)⟩
      · rw [if_neg hl] at e; cases e
    · cases e
  · cases e
def Jpt (v o i : ESem) : SSem := fun env S => (v env S).bind fun p => (o env p.2).bind fun q => (i env q.2).bind fun r => match q.1,r.1 with
  | .ref j,.int k => (match r.2[j]? with
    | some (some ds) => (ixN ds.length k).bind fun n => some (.nx,env,r.2.set j (some (ds.set n p.1)))
    | _ => none)
  | _,_ => none
theorem Jqa {a i : Expr} {fv fi : ESem} {pos tpos : Pos} (he : JE X a fv) (ho : JE X o fo) (hi : JE X i fi)
    (ha : ∀ v,assign (.Subscript o i tpos) X.env v = (do
      let ov ← holding [v] (eval o X.env)
      let iv ← holding [v,ov] (eval i X.env)
      standAt tpos
      holding [v,ov,iv] (setItem ov iv v)
      release [v,ov,iv] []) := by intro _; rfl)
    (hs : swapsWithSole [.Subscript o i tpos] a pos.line X.env = pure false := by rfl) (hw : swappedStores [.Subscript o i tpos] a X.env = pure none := by rfl)
    (h1 : (assignEach [.Subscript o i tpos] X.env).map (·.2) = [assign (.Subscript o i tpos) X.env] := by rfl) : JS X (.Assign [.Subscript o i tpos] a pos) (Jpt fv fo fi) :=
  ⟨PS.imp (Jwh he.pe (JAk ho.pe hi.pe set_list ha) hs hw h1) fun E σ H h => by
    obtain ⟨Γ,μ,env,S,fl,env',S',hK,R,e,q⟩ := h
    obtain ⟨⟨x,S1⟩,e1,e⟩ := bind_some e
    obtain ⟨⟨y,S2⟩,e2,e⟩ := bind_some e
    obtain ⟨⟨z,S3⟩,e3,e⟩ := bind_some e
    refine ⟨Γ,μ,env,S,x,S1,hK,R,e1,fun v1 μ1 H1 x1 R1 r1 => ?_⟩
    refine ⟨Γ,μ1,env,S1,y,S2,hK,R1,e2,fun v2 μ2 H2 x2 R2 r2 => ?_⟩
    refine ⟨Γ,μ2,env,S2,z,S3,hK,R2,e3,fun v3 μ3 H3 x3 R3 r3 => ?_⟩
    dsimp only at e
    split at e
    · rename_i j k
      split at e
      · rename_i ds hd
        obtain ⟨n,e4,e⟩ := bind_some e
        cases e
        obtain ⟨b,us,rfl,g1,g2,g3⟩ := VR.refI R3 (r2.ext x3) hd
        cases r3
        have r1' := r1.ext (x2.trans x3)
        obtain ⟨R4,x4⟩ := R3.put g1 (g3.set r1' n)
        exact ⟨b,us,_,n,rfl,rfl,g2,by rw [g3.length]; exact e4,q μ3 σ _ (x1.trans (x2.trans (x3.trans x4))) R4⟩
      · cases e
    · cases e⟩
end
end VS
end
section
set_option Elab.async false
set_option maxRecDepth 10000
set_option linter.all false
namespace VS
open PySem PySem.Spec L2
mutual
def Ja4 : D → Bool
  | .ref _ => false
  | .tup ds => Jax ds
  | .lst _ ds => Jax ds
  | _ => true
def Jax : List D → Bool
  | [] => true
  | d :: r => Ja4 d && Jax r
end
mutual
def Jdl : D → Bool
  | .ref _ => false
  | .lst _ _ => false
  | .scr _ => false
  | .emp => false
  | .tup ds => Jd9 ds
  | _ => true
def Jd9 : List D → Bool
  | [] => true
  | d :: r => Jdl d && Jd9 r
end
mutual
def newD : D → Bool
  | .ref _ => false
  | .lst m ds => m && newL ds
  | .scr _ => false
  | .emp => false
  | .tup ds => newL ds
  | _ => true
def newL : List D → Bool
  | [] => true
  | d :: r => newD d && newL r
end
mutual
def den (k : Nat) (S : Store) : D → Option D
  | .tup ds => (denL k S ds).map .tup
  | .lst m ds => (denL k S ds).map (.lst m)
  | .ref i => if i < k then none else match S[i]? with | some (some ds) => if Jax ds = true then some (.lst true ds) else none | _ => none
  | .non => some .non
  | .bl b => some (.bl b)
  | .int i => some (.int i)
  | .str x => some (.str x)
  | .ty n => some (.ty n)
  | .scr ns => some (.scr ns)
  | .emp => some .emp
def denL (k : Nat) (S : Store) : List D → Option (List D)
  | [] => some []
  | d :: r => (den k S d).bind fun x => (denL k S r).bind fun xs => some (x :: xs)
end
mutual
def age : D → D
  | .tup ds => .tup (ageL ds)
  | .lst _ ds => .lst false (ageL ds)
  | .ref i => .ref i
  | .non => .non
  | .bl b => .bl b
  | .int i => .int i
  | .str x => .str x
  | .ty n => .ty n
  | .scr ns => .scr ns
  | .emp => .emp
def ageL : List D → List D
  | [] => []
  | d :: r => age d :: ageL r
end
mutual
theorem Jfh : ∀ {d : D},Jdl d = true → Ja4 d = true
  | .ref _,h => by simp [Jdl] at h
  | .lst _ _,h => by simp [Jdl] at h
  | .scr _,h => by simp [Jdl] at h
  | .emp,h => by simp [Jdl] at h
  | .tup ds,h => by rw [Jdl] at h; rw [Ja4]; exact Jbg h
  | .non,_ => rfl
  | .bl _,_ => rfl
  | .int _,_ => rfl
  | .str _,_ => rfl
  | .ty _,_ => rfl
theorem Jbg : ∀ {ds : List D},Jd9 ds = true → Jax ds = true
  | [],_ => rfl
  | d :: r,h => by
    rw [Jd9,Bool.and_eq_true] at h
    rw [Jax,Jfh h.1,Jbg h.2]; rfl
end
mutual
theorem Jmn : ∀ {d : D},Jdl d = true → newD d = true
  | .ref _,h => by simp [Jdl] at h
  | .lst _ _,h => by simp [Jdl] at h
  | .scr _,h => by simp [Jdl] at h
  | .emp,h => by simp [Jdl] at h
  | .tup ds,h => by rw [Jdl] at h; rw [newD]; exact Jic h
  | .non,_ => rfl
  | .bl _,_ => rfl
  | .int _,_ => rfl
  | .str _,_ => rfl
  | .ty _,_ => rfl
theorem Jic : ∀ {ds : List D},Jd9 ds = true → newL ds = true
  | [],_ => rfl
  | d :: r,h => by
    rw [Jd9,Bool.and_eq_true] at h
    rw [newL,Jmn h.1,Jic h.2]; rfl
end
mutual
theorem Jet (k : Nat) (S : Store) : ∀ {d : D},Ja4 d = true → den k S d = some d
  | .ref _,h => by simp [Ja4] at h
  | .lst m ds,h => by rw [Ja4] at h; rw [den,Jbb k S h]; rfl
  | .tup ds,h => by rw [Ja4] at h; rw [den,Jbb k S h]; rfl
  | .non,_ => by rw [den]
  | .bl _,_ => by rw [den]
  | .int _,_ => by rw [den]
  | .str _,_ => by rw [den]
  | .ty _,_ => by rw [den]
  | .scr _,_ => by rw [den]
  | .emp,_ => by rw [den]
theorem Jbb (k : Nat) (S : Store) : ∀ {ds : List D},Jax ds = true → denL k S ds = some ds
  | [],_ => by rw [denL]
  | d :: r,h => by
    rw [Jax,Bool.and_eq_true] at h
    rw [denL,Jet k S h.1,Jbb k S h.2]; rfl
end
mutual
theorem Jmo : ∀ {d : D},Jdl d = true → age d = d
  | .ref _,h => by simp [Jdl] at h
  | .lst _ _,h => by simp [Jdl] at h
  | .scr _,h => by simp [Jdl] at h
  | .emp,h => by simp [Jdl] at h
  | .tup ds,h => by rw [Jdl] at h; rw [age,Jg8 h]
  | .non,_ => by rw [age]
  | .bl _,_ => by rw [age]
  | .int _,_ => by rw [age]
  | .str _,_ => by rw [age]
  | .ty _,_ => by rw [age]
theorem Jg8 : ∀ {ds : List D},Jd9 ds = true → ageL ds = ds
  | [],_ => by rw [ageL]
  | d :: r,h => by
    rw [Jd9,Bool.and_eq_true] at h
    rw [ageL,Jmo h.1,Jg8 h.2]
end

section
variable {Γ Γ' : Fr} {μ μ' : Mu} {H : Hp}
mutual
theorem VR.age (hK : Γ'.K = Γ.K) (hN : ∀ a,¬ Live μ a → Γ.N a ∨ Γ.H0 a = none → Γ'.N a) (hl : ∀ a o,H a = some o → ¬ Live μ a → ¬ Live μ' a) : ∀ {v : V} {d : D},Ja4 d = true → VR Γ μ H v d → VR Γ' μ' H v (VS.age d)
  | _,_,_,.non => by rw [VS.age]; exact .non
  | _,_,_,.bl b => by rw [VS.age]; exact .bl b
  | _,_,_,.int i => by rw [VS.age]; exact .int i
  | _,_,_,.str x => by rw [VS.age]; exact .str x
  | _,_,_,.ty n => by rw [VS.age]; exact .ty n
  | _,_,h,.tup hb t => by rw [Ja4] at h; rw [VS.age]; exact .tup hb (VRs.age hK hN hl h t)
  | _,_,h,.lst o n hb t => by rw [Ja4] at h; rw [VS.age]; exact .lst ⟨fun z => (by cases z),.inl (hN _ n o.2)⟩ (hl _ _ hb n) hb (VRs.age hK hN hl h t)
  | _,_,h,.ref _ _ => by simp [Ja4] at h
  | _,_,_,.scrK k => by rw [VS.age]; exact .scrK (by rw [hK]; exact k)
  | _,_,_,.scrR n hb => by rw [VS.age]; exact .scrR (hl _ _ hb n) hb
  | _,_,_,.emp n hb => by rw [VS.age]; exact .emp (hl _ _ hb n) hb
theorem VRs.age (hK : Γ'.K = Γ.K) (hN : ∀ a,¬ Live μ a → Γ.N a ∨ Γ.H0 a = none → Γ'.N a) (hl : ∀ a o,H a = some o → ¬ Live μ a → ¬ Live μ' a) : ∀ {v : List V} {d : List D},Jax d = true → VRs Γ μ H v d → VRs Γ' μ' H v (ageL d)
  | _,_,_,.nil => by rw [ageL]; exact .nil
  | _,_,h,.cons r t => by
    rw [Jax,Bool.and_eq_true] at h
    rw [ageL]; exact .cons (VR.age hK hN hl h.1 r) (VRs.age hK hN hl h.2 t)
end
mutual
theorem VR.pure (hK : Γ'.K = Γ.K) (hN : ∀ m a xs,¬ Live μ a → Γ.Ok m a → H a = some (.lst xs) → Γ'.Ok m a ∧ ¬ Live μ' a) (ho : ∀ a o,H a = some o → ¬ Live μ a → (∀ xs,o ≠ .lst xs) → ¬ Live μ' a) : ∀ {v : V} {d : D},Ja4 d = true → VR Γ μ H v d → VR Γ' μ' H v d
  | _,_,_,.non => .non
  | _,_,_,.bl b => .bl b
  | _,_,_,.int i => .int i
  | _,_,_,.str x => .str x
  | _,_,_,.ty n => .ty n
  | _,_,h,.tup hb t => by rw [Ja4] at h; exact .tup hb (VRs.pure hK hN ho h t)
  | _,_,h,.lst o n hb t => by rw [Ja4] at h; exact .lst (hN _ _ _ n o hb).1 (hN _ _ _ n o hb).2 hb (VRs.pure hK hN ho h t)
  | _,_,h,.ref _ _ => by simp [Ja4] at h
  | _,_,_,.scrK k => .scrK (by rw [hK]; exact k)
  | _,_,_,.scrR n hb => .scrR (ho _ _ hb n fun _ z => by cases z) hb
  | _,_,_,.emp n hb => .emp (ho _ _ hb n fun _ z => by cases z) hb
theorem VRs.pure (hK : Γ'.K = Γ.K) (hN : ∀ m a xs,¬ Live μ a → Γ.Ok m a → H a = some (.lst xs) → Γ'.Ok m a ∧ ¬ Live μ' a) (ho : ∀ a o,H a = some o → ¬ Live μ a → (∀ xs,o ≠ .lst xs) → ¬ Live μ' a) : ∀ {v : List V} {d : List D},Jax d = true → VRs Γ μ H v d → VRs Γ' μ' H v d
  | _,_,_,.nil => .nil
  | _,_,h,.cons r t => by
    rw [Jax,Bool.and_eq_true] at h
    exact .cons (VR.pure hK hN ho h.1 r) (VRs.pure hK hN ho h.2 t)
end
mutual
theorem VR.den {σ : St} {env : Env} {S S0 : Store} {k : Nat} (R : Rep Γ μ σ H env S) (hK : Γ'.K = Γ.K) (h0 : ∀ (i : Nat) (ds : List D) (a : Addr),k ≤ i → S0[i]? = some (some ds) → S[i]? = some (some ds) ∧ (μ[i]? = some (some a) → ¬ Live μ' a ∧ Γ'.Ok true a))
    (hN : ∀ m a,¬ Live μ a → Γ.Ok m a → Γ'.Ok m a) (hl : ∀ a o,H a = some o → ¬ Live μ a → ¬ Live μ' a) : ∀ {v : V} {d e : D},VR Γ μ H v d → VS.den k S0 d = some e → VR Γ' μ' H v e
  | _,_,_,.non,h => by rw [VS.den] at h; cases h; exact .non
  | _,_,_,.bl b,h => by rw [VS.den] at h; cases h; exact .bl b
  | _,_,_,.int i,h => by rw [VS.den] at h; cases h; exact .int i
  | _,_,_,.str x,h => by rw [VS.den] at h; cases h; exact .str x
  | _,_,_,.ty n,h => by rw [VS.den] at h; cases h; exact .ty n
  | _,_,_,.tup hb t,h => by
    rw [VS.den] at h
    obtain ⟨es,e1,e2⟩ := map_some h
    subst e2
    exact .tup hb (VRs.den R hK h0 hN hl t e1)
  | _,_,_,.lst o n hb t,h => by
    rw [VS.den] at h
    obtain ⟨es,e1,e2⟩ := map_some h
    subst e2
    exact .lst (hN _ _ n o) (hl _ _ hb n) hb (VRs.den R hK h0 hN hl t e1)
  | _,.ref i,_,.ref hi f,h => by
    rw [VS.den] at h
    by_cases hk : i < k
    · rw [if_pos hk] at h; cases h
    · rw [if_neg hk] at h
      split at h
      · rename_i ds hd
        by_cases hp : Jax ds = true
        · rw [if_pos hp] at h
          cases h
          have hS := (h0 i ds 0 (by omega) hd).1
          obtain ⟨a,xs,h1,h2,h3⟩ := R.sto i ds hS
          have hv := f a h1
          subst hv
          obtain ⟨z1,z2⟩ := (h0 i ds a (by omega) hd).2 h1
          exact .lst z2 z1 h2 (VRs.pure hK (fun m b ys n o hb => ⟨hN m b n o,hl b _ hb n⟩) (fun b o hb n _ => hl b o hb n) hp h3)
        · rw [if_neg hp] at h; cases h
      · cases h
  | _,_,_,.scrK k,h => by rw [VS.den] at h; cases h; exact .scrK (by rw [hK]; exact k)
  | _,_,_,.scrR n hb,h => by rw [VS.den] at h; cases h; exact .scrR (hl _ _ hb n) hb
  | _,_,_,.emp n hb,h => by rw [VS.den] at h; cases h; exact .emp (hl _ _ hb n) hb
theorem VRs.den {σ : St} {env : Env} {S S0 : Store} {k : Nat} (R : Rep Γ μ σ H env S) (hK : Γ'.K = Γ.K) (h0 : ∀ (i : Nat) (ds : List D) (a : Addr),k ≤ i → S0[i]? = some (some ds) → S[i]? = some (some ds) ∧ (μ[i]? = some (some a) → ¬ Live μ' a ∧ Γ'.Ok true a))
    (hN : ∀ m a,¬ Live μ a → Γ.Ok m a → Γ'.Ok m a) (hl : ∀ a o,H a = some o → ¬ Live μ a → ¬ Live μ' a) : ∀ {v : List V} {d e : List D},VRs Γ μ H v d → VS.denL k S0 d = some e → VRs Γ' μ' H v e
  | _,_,_,.nil,h => by rw [denL] at h; cases h; exact .nil
  | _,_,_,.cons r t,h => by
    rw [denL] at h
    obtain ⟨x,e1,h⟩ := bind_some h
    obtain ⟨xs,e2,h⟩ := bind_some h
    cases h
    exact .cons (VR.den R hK h0 hN hl r e1) (VRs.den R hK h0 hN hl t e2)
end
mutual
theorem VR.new (hN : ∀ a xs,¬ Live μ a → Γ.Ok true a → H a = some (.lst xs) → Γ'.Ok true a ∧ ¬ Live μ' a) : ∀ {v : V} {d : D},newD d = true → VR Γ μ H v d → VR Γ' μ' H v d
  | _,_,_,.non => .non
  | _,_,_,.bl b => .bl b
  | _,_,_,.int i => .int i
  | _,_,_,.str x => .str x
  | _,_,_,.ty n => .ty n
  | _,_,h,.tup hb t => by rw [newD] at h; exact .tup hb (VRs.new hN h t)
  | _,.lst m ds,h,.lst o n hb t => by
    rw [newD,Bool.and_eq_true] at h
    obtain ⟨rfl,h⟩ := h
    exact .lst (hN _ _ n o hb).1 (hN _ _ n o hb).2 hb (VRs.new hN h t)
  | _,_,h,.ref _ _ => by simp [newD] at h
  | _,_,h,.scrK _ => by simp [newD] at h
  | _,_,h,.scrR _ _ => by simp [newD] at h
  | _,_,h,.emp _ _ => by simp [newD] at h
theorem VRs.new (hN : ∀ a xs,¬ Live μ a → Γ.Ok true a → H a = some (.lst xs) → Γ'.Ok true a ∧ ¬ Live μ' a) : ∀ {v : List V} {d : List D},newL d = true → VRs Γ μ H v d → VRs Γ' μ' H v d
  | _,_,_,.nil => .nil
  | _,_,h,.cons r t => by
    rw [newL,Bool.and_eq_true] at h
    exact .cons (VR.new hN h.1 r) (VRs.new hN h.2 t)
end
mutual
theorem VR.flat : ∀ {v : V} {d : D},Jdl d = true → VR Γ μ H v d → VR Γ' μ' H v d
  | _,_,_,.non => .non
  | _,_,_,.bl b => .bl b
  | _,_,_,.int i => .int i
  | _,_,_,.str x => .str x
  | _,_,_,.ty n => .ty n
  | _,_,h,.tup hb t => by rw [Jdl] at h; exact .tup hb (VRs.flat h t)
  | _,_,h,.lst _ _ _ _ => by simp [Jdl] at h
  | _,_,h,.ref _ _ => by simp [Jdl] at h
  | _,_,h,.scrK _ => by simp [Jdl] at h
  | _,_,h,.scrR _ _ => by simp [Jdl] at h
  | _,_,h,.emp _ _ => by simp [Jdl] at h
theorem VRs.flat : ∀ {v : List V} {d : List D},Jd9 d = true → VRs Γ μ H v d → VRs Γ' μ' H v d
  | _,_,_,.nil => .nil
  | _,_,h,.cons r t => by
    rw [Jd9,Bool.and_eq_true] at h
    exact .cons (VR.flat h.1 r) (VRs.flat h.2 t)
end
mutual
theorem Jmr {k : Nat} {S : Store} : ∀ {d e : D},den k S d = some e → Ja4 e = true
  | .tup ds,e,h => by
    rw [den] at h
    obtain ⟨es,e1,e2⟩ := map_some h
    subst e2
    rw [Ja4]; exact Jij e1
  | .lst m ds,e,h => by
    rw [den] at h
    obtain ⟨es,e1,e2⟩ := map_some h
    subst e2
    rw [Ja4]; exact Jij e1
  | .ref i,e,h => by
    rw [den] at h
    by_cases hk : i < k
    · rw [if_pos hk] at h; cases h
    · rw [if_neg hk] at h
      split at h
      · rename_i ds hd
        by_cases hp : Jax ds = true
        · rw [if_pos hp] at h; cases h; rw [Ja4]; exact hp
        · rw [if_neg hp] at h; cases h
      · cases h
  | .non,e,h => by rw [den] at h; cases h; rfl
  | .bl _,e,h => by rw [den] at h; cases h; rfl
  | .int _,e,h => by rw [den] at h; cases h; rfl
  | .str _,e,h => by rw [den] at h; cases h; rfl
  | .ty _,e,h => by rw [den] at h; cases h; rfl
  | .scr _,e,h => by rw [den] at h; cases h; rfl
  | .emp,e,h => by rw [den] at h; cases h; rfl
theorem Jij {k : Nat} {S : Store} : ∀ {d e : List D},denL k S d = some e → Jax e = true
  | [],e,h => by rw [denL] at h; cases h; rfl
  | d :: r,e,h => by
    rw [denL] at h
    obtain ⟨x,e1,h⟩ := bind_some h
    obtain ⟨xs,e2,h⟩ := bind_some h
    cases h
    rw [Jax,Jmr e1,Jij e2]; rfl
end
end
end VS
end
section
set_option Elab.async false
set_option maxRecDepth 10000
set_option linter.all false
namespace VS
open PySem PySem.Spec L2
abbrev PSem := List D → Option D
abbrev MSem := List Int → List D → Option (D × List Int)
def intsOf : List D → Option (List Int)
  | [] => some []
  | .int i :: r => (intsOf r).map (i :: ·)
  | _ => none
theorem Jdg : ∀ {ds : List D} {ns : List Int},intsOf ds = some ns → ds = ns.map D.int
  | [],_,h => by cases h; rfl
  | .int i :: r,ns,h => by
    obtain ⟨ms,e1,e2⟩ := map_some h
    subst e2
    rw [List.map_cons,Jdg e1]
  | .non :: _,_,h => by cases h
  | .bl _ :: _,_,h => by cases h
  | .str _ :: _,_,h => by cases h
  | .ty _ :: _,_,h => by cases h
  | .tup _ :: _,_,h => by cases h
  | .lst _ _ :: _,_,h => by cases h
  | .ref _ :: _,_,h => by cases h
  | .scr _ :: _,_,h => by cases h
  | .emp :: _,_,h => by cases h
@[simp] theorem Jhf (ns : List Int) : intsOf (ns.map D.int) = some ns := by
  induction ns with
  | nil => rfl
  | cons n r ih => rw [List.map_cons,intsOf,ih]; rfl
def runP (np n : Nat) (f : SSem) : PSem := fun ds => if ds.length = np then (f (ds.map some ++ List.replicate (n - ds.length) none) []).bind fun p => match p.1 with | .ret d => den 0 p.2.2 d | .nx => some .non | _ => none else none
def runM (np n : Nat) (f : SSem) : MSem := fun ns ds => if ds.length + 1 = np then (f (some (.ref 0) :: (ds.map some ++ List.replicate (n - 1 - ds.length) none)) [some (ns.map D.int)]).bind fun p => match p.2.2[0]? with
  | some (some cs) => (intsOf cs).bind fun ms => (match p.1 with | .ret d => (den 1 p.2.2 d).map fun r => (r,ms) | .nx => some (.non,ms) | _ => none)
  | _ => none
  else none
def spP (K : PySem.W.Frag) (sem : PSem) (n : Nat) : Sp := fun vs H Q _ => ∃ (N : Addr → Prop) (ds : List D) (r : D),vs.length = n ∧ VRs ⟨K,H,N,[]⟩ [] H vs ds ∧ sem ds = some r ∧ ∀ v H',Same H H' → VR ⟨K,H,N,[]⟩ [] H' v r → Q v H'
def spM (K : PySem.W.Frag) (sem : MSem) (n : Nat) : Sp := fun vs H Q _ => ∃ (N : Addr → Prop) (a : Addr) (us : List V) (ns : List Int) (ds : List D) (r : D) (ms : List Int),vs = .ref a :: us ∧ vs.length = n ∧ H a = some (.lst (ns.map V.int)) ∧ VRs ⟨K,H,N,[a]⟩ [some a] H us ds ∧ sem ns ds = some (r,ms) ∧
  ∀ v H',(∀ b o,b ≠ a → H b = some o → H' b = some o) → H' a = some (.lst (ms.map V.int)) → VR ⟨K,H,N,[a]⟩ [some a] H' v r → Q v H'

section
variable {P : Program} {w : World} {K : PySem.W.Frag} {mg : Str → Option Value} {base : Heap}
theorem Jm5 {N : List Str} {vs : List V} {ds : List D} {Γ : Fr} {μ : Mu} {H : Hp} (r : VRs Γ μ H vs ds) {i : Nat} {d : D} {n : Nat} (h : (ds.map some ++ List.replicate n none : Env)[i]? = some (some d)) : ∃ v,(vs.map some ++ List.replicate (N.length - vs.length) none : St)[i]? = some (some v) ∧ VR Γ μ H v d := by
  have hi : i < ds.length := by
    by_cases hi : i < ds.length
    · exact hi
    · rw [List.getElem?_append_right (by simpa using hi),List.getElem?_replicate] at h
      split at h <;> cases h
  rw [List.getElem?_append_left (by simpa using hi),List.getElem?_map] at h
  have h2 : ds[i]? = some d := by
    cases q : ds[i]? with
    | none => rw [q] at h; cases h
    | some e => rw [q] at h; cases h; rfl
  obtain ⟨v,e1,e2⟩ := r.get h2
  refine ⟨v,?_,e2⟩
  rw [List.getElem?_append_left (by rw [List.length_map,r.length]; exact hi),List.getElem?_map,e1]
  rfl
theorem Jfm {a : Addr} : ¬ Live [] a := fun z => by simp [Live] at z
theorem Jib {a b : Addr} : Live [some b] a ↔ a = b := by simp [Live]
theorem fnP {x qual : Str} {st : Stmt} {f : Addr} {fd : FuncData} {N ps : List Str} {k : Nat} {fs : SSem} (F : Fun K x qual st f fd) (Sc : Jb3 N ps (Jag st))
    (hb : ∀ (cdv : Value) (A : Around) (outer : List PySem.Env) (s : Shared) (H : Hp) (E : XK),Room k (A.deeper (PyProof.Rows.envOfC qual (Jag st) s.heap.objs.size f cdv)) → JSs (cxOf CX0 P w K mg base N qual (Jag st) f cdv A outer s H E).nox (Jbk st) fs) :
    FnOk P w K mg base CX0 (k + 1) f fd ps (spP K (runP ps.length N.length fs) ps.length) := by
  refine F.ok Sc (fun vs H Q E h => ?_) (fun cdv A outer s H vs Q E hr h => ?_)
  · obtain ⟨_,_,_,hl,_⟩ := h; exact hl
  obtain ⟨Nn,ds,r,hl,rs,e,q⟩ := h
  refine ⟨_,(hb cdv A outer s H E hr).ps,?_⟩
  have hdl := rs.length
  unfold runP at e
  rw [if_pos (by omega)] at e
  obtain ⟨⟨fl,env',S'⟩,e1,e⟩ := bind_some e
  have hpl : ps.length ≤ N.length := by have := congrArg List.length Sc.pre; rw [List.length_take] at this; omega
  refine ⟨⟨K,H,Nn,[]⟩,[],_,[],fl,env',S',rfl,⟨fun i d h => Jm5 rs h,?_,fun i ds h => by simp at h,fun i a h => by simp at h,fun i j a h => by simp at h,rfl,Ext.refl _ _,fun i a _ h => by simp at h⟩,e1,fun μ' σ' H' x' R' => ?_⟩
  · unfold L2.start
    rw [List.length_append,List.length_map,List.length_replicate,List.length_append,List.length_map,List.length_replicate,hdl]
  have sm : Same H H' := fun b o hb => (x'.keep b o hb Jfm).1
  dsimp only at e
  cases fl with
  | nx => cases e; exact q _ H' sm .non
  | brk => cases e
  | cnt => cases e
  | ret d =>
    intro v rv
    refine q v H' sm (VR.den R' rfl (fun i ds a _ hs => ⟨hs,fun hm => ⟨Jfm,?_⟩⟩) (fun m a _ o => o) (fun a o _ _ => Jfm) rv e)
    have hn := R'.new i a (Nat.zero_le _) hm
    exact ⟨fun _ => hn,.inr hn⟩
theorem fnM {x qual : Str} {st : Stmt} {f : Addr} {fd : FuncData} {N ps : List Str} {k : Nat} {fs : SSem} (F : Fun K x qual st f fd) (Sc : Jb3 N ps (Jag st))
    (hb : ∀ (cdv : Value) (A : Around) (outer : List PySem.Env) (s : Shared) (H : Hp) (E : XK),Room k (A.deeper (PyProof.Rows.envOfC qual (Jag st) s.heap.objs.size f cdv)) → JSs (cxOf CX0 P w K mg base N qual (Jag st) f cdv A outer s H E).nox (Jbk st) fs) :
    FnOk P w K mg base CX0 (k + 1) f fd ps (spM K (runM ps.length N.length fs) ps.length) := by
  refine F.ok Sc (fun vs H Q E h => ?_) (fun cdv A outer s H vs Q E hr h => ?_)
  · obtain ⟨_,_,_,_,_,_,_,_,hl,_⟩ := h; exact hl
  obtain ⟨Nn,a,us,ns,ds,r,ms,rfl,hl,ha,rs,e,q⟩ := h
  refine ⟨_,(hb cdv A outer s H E hr).ps,?_⟩
  have hdl := rs.length
  rw [List.length_cons] at hl
  unfold runM at e
  rw [if_pos (by omega)] at e
  obtain ⟨⟨fl,env',S'⟩,e1,e⟩ := bind_some e
  have hpl : ps.length ≤ N.length := by have := congrArg List.length Sc.pre; rw [List.length_take] at this; omega
  refine ⟨⟨K,H,Nn,[a]⟩,[some a],_,[some (ns.map D.int)],fl,env',S',rfl,⟨fun i d h => ?_,?_,fun i es h => ?_,fun i b h => ?_,fun i j b h1 h2 => ?_,rfl,Ext.refl _ _,fun i b hi h => ?_⟩,e1,fun μ' σ' H' x' R' => ?_⟩
  · cases i with
    | zero =>
      simp at h
      subst h
      refine ⟨.ref a,by simp [L2.start],.ref (by simp) fun b hb => ?_⟩
      simp at hb; rw [hb]
    | succ i =>
      rw [List.getElem?_cons_succ] at h
      obtain ⟨v,e1,e2⟩ := Jm5 (N := List.replicate (N.length - 1) "") rs h
      refine ⟨v,?_,e2⟩
      unfold L2.start
      rw [List.map_cons,List.cons_append,List.getElem?_cons_succ,List.length_cons]
      rw [List.length_replicate] at e1
      rw [show N.length - (us.length + 1) = N.length - 1 - us.length by omega]
      exact e1
  · unfold L2.start
    rw [List.length_append,List.length_map,List.length_replicate,List.length_cons,List.length_cons,List.length_append,List.length_map,List.length_replicate,hdl]
    omega
  · cases i with
    | zero => simp at h; subst h; exact ⟨a,_,by simp,ha,VRs.ints ns⟩
    | succ i => simp at h
  · cases i with
    | zero => exact ⟨_,rfl⟩
    | succ i => simp at h
  · cases i with
    | zero => cases j with
      | zero => rfl
      | succ j => simp at h2
    | succ i => simp at h1
  · cases i with
    | zero => simp at hi
    | succ i => simp at h
  have sm : ∀ b o,b ≠ a → H b = some o → H' b = some o := fun b o hb h => (x'.keep b o h fun z => hb (Jib.mp z)).1
  dsimp only at e
  split at e
  · rename_i cs hc
    obtain ⟨ms',e3,e5⟩ := bind_some e
    clear e
    obtain ⟨a',xs',g1,g2,g3⟩ := R'.sto 0 cs hc
    have ea : a' = a := by
      have := x'.ids 0 a' (by simp) g1
      simp at this; exact this.symm
    subst ea
    have ec := Jdg e3
    subst ec
    have ex := g3.Jnv
    subst ex
    cases fl with
    | nx => cases e5; exact q _ H' sm g2 .non
    | brk => cases e5
    | cnt => cases e5
    | ret d =>
      intro v rv
      dsimp only at e5
      obtain ⟨r',e4,e6⟩ := map_some e5
      cases e6
      refine q v H' sm g2 (VR.den R' rfl (fun i es b hi hs => ⟨hs,fun hm => ⟨fun z => ?_,?_⟩⟩) (fun m b _ o => o) (fun b o _ n z => n ?_) rv e4)
      · have : b = a' := Jib.mp z
        subst this
        have := R'.inj 0 i b g1 hm
        omega
      · have hn := R'.new i b hi hm
        exact ⟨fun _ => hn,.inr hn⟩
      · have : b = a' := Jib.mp z
        subst this
        exact List.mem_of_getElem? g1
  · cases e
end
theorem Jcl {np n : Nat} {f : SSem} {ds : List D} {r : D} (h : runP np n f ds = some r) : ds.length = np ∧ Ja4 r = true := by
  unfold runP at h
  by_cases hl : ds.length = np
  · rw [if_pos hl] at h
    obtain ⟨⟨fl,env',S'⟩,e1,e⟩ := bind_some h
    refine ⟨hl,?_⟩
    dsimp only at e
    cases fl with
    | nx => cases e; rfl
    | brk => cases e
    | cnt => cases e
    | ret d => exact Jmr e
  · rw [if_neg hl] at h; cases h
theorem Jiq {np n : Nat} {f : SSem} {ns : List Int} {ds : List D} {r : D × List Int} (h : runM np n f ns ds = some r) : ds.length + 1 = np ∧ Ja4 r.1 = true := by
  unfold runM at h
  by_cases hl : ds.length + 1 = np
  · rw [if_pos hl] at h
    obtain ⟨⟨fl,env',S'⟩,e1,e⟩ := bind_some h
    refine ⟨hl,?_⟩
    dsimp only at e
    split at e
    · rename_i cs hc
      obtain ⟨ms',e3,e⟩ := bind_some e
      cases fl with
      | nx => cases e; rfl
      | brk => cases e
      | cnt => cases e
      | ret d =>
        dsimp only at e
        obtain ⟨r',e4,e⟩ := map_some e
        cases e
        exact Jmr e4
    · cases e
  · rw [if_neg hl] at h; cases h
end VS
end
section
set_option Elab.async false
set_option maxRecDepth 10000
set_option linter.all false
namespace VS
open PySem PySem.Spec L2
structure CalP (P : Program) (w : World) (K : PySem.W.Frag) (mg : Str → Option Value) (base : Heap) (x : Str) (k : Nat) (sem : PSem) : Prop where
  cal : ∃ ps,Cal P w K mg base x k ps (spP K sem ps.length) ∧ ∀ ds r,sem ds = some r → ds.length = ps.length ∧ Ja4 r = true
structure CalM (P : Program) (w : World) (K : PySem.W.Frag) (mg : Str → Option Value) (base : Heap) (x : Str) (k : Nat) (sem : MSem) : Prop where
  cal : ∃ ps,Cal P w K mg base x k ps (spM K sem ps.length) ∧ ∀ ns ds r,sem ns ds = some r → ds.length + 1 = ps.length ∧ Ja4 r.1 = true
def Jbc (sem : PSem) (a : ASem) : ESem := fun env S => (a env S).bind fun p => (denL 0 p.2 p.1).bind fun ds => (sem (ageL ds)).bind fun r => if (Jax p.1 || newD r) = true then some (r,p.2) else none
def Jby (sem : MSem) (a : ASem) : ESem := fun env S => (a env S).bind fun p => match p.1 with
  | .ref i :: rest => (match p.2[i]? with
    | some (some cs) => (intsOf cs).bind fun ns => (denL 0 (p.2.set i none) rest).bind fun ds => (sem ns (ageL ds)).bind fun r => if (Jax rest || newD r.1) = true then some (r.1,p.2.set i (some (r.2.map D.int))) else none
    | _ => none)
  | _ => none
def Jrl (n : Nat) : List D → Option (List D × List D)
  | [] => none
  | d :: r => if Jdl d = true then (Jrl n r).map fun p => (d :: p.1,p.2) else match d with
    | .lst true ds => if (Jd9 ds && Jd9 r) = true then some (.ref n :: r,ds) else none
    | _ => none
def thaw (n : Nat) : D → Option (D × List D)
  | .lst true ds => if Jd9 ds = true then some (.ref n,ds) else none
  | .tup es => (Jrl n es).map fun p => (.tup p.1,p.2)
  | _ => none
def Jn8 (sem : PSem) (a : ASem) : ESem := fun env S => (Jbc sem a env S).bind fun p => (thaw p.2.length p.1).bind fun q => some (q.1,p.2 ++ [some q.2])
def Jn9 (sem : MSem) (a : ASem) : ESem := fun env S => (Jby sem a env S).bind fun p => (thaw p.2.length p.1).bind fun q => some (q.1,p.2 ++ [some q.2])

section
variable {Γ : Fr} {μ : Mu} {σ : St} {H H' : Hp} {env : Env} {S : Store}
theorem lend {K : PySem.W.Frag} (hK : Γ.K = K) (R : Rep Γ μ σ H env S) {S0 : Store} {m0 : List Addr} {vs : List V} {ds es : List D} (r : VRs Γ μ H vs ds) (e : denL 0 S0 ds = some es) (h0 : ∀ (i : Nat) (ds : List D) (a : Addr),S0[i]? = some (some ds) → S[i]? = some (some ds) ∧ (μ[i]? = some (some a) → ¬ Live (m0.map some) a)) (hm : ∀ a ∈ m0,Live μ a)
    (c : Bool) (hc : (Jax ds || c) = true) : ∃ N : Addr → Prop,VRs ⟨K,H,N,m0⟩ (m0.map some) H vs (ageL es) ∧ (c = true ∨ ∀ a,N a → ¬ Live μ a ∧ (Γ.N a ∨ Γ.H0 a = none)) := by
  subst hK
  have hl : ∀ a o,H a = some o → ¬ Live μ a → ¬ Live (m0.map some) a := fun a o _ n z => n (hm a (by simpa [Live] using z))
  by_cases hp : Jax ds = true
  · rw [Jbb 0 S0 hp] at e
    cases e
    exact ⟨fun a => ¬ Live μ a ∧ (Γ.N a ∨ Γ.H0 a = none),VRs.age (Γ := Γ) (Γ' := ⟨Γ.K,H,fun a => ¬ Live μ a ∧ (Γ.N a ∨ Γ.H0 a = none),m0⟩) rfl (fun a n o => ⟨n,o⟩) hl hp r,.inr fun a z => z⟩
  · have hc' : c = true := by simpa [hp] using hc
    refine ⟨fun _ => True,?_,.inl hc'⟩
    have r1 : VRs ⟨Γ.K,fun _ => none,fun _ => True,m0⟩ (m0.map some) H vs es := VRs.den (Γ' := ⟨Γ.K,fun _ => none,fun _ => True,m0⟩) R rfl (fun i ds a _ hs => ⟨(h0 i ds a hs).1,fun z => ⟨(h0 i ds a hs).2 z,⟨fun _ => rfl,.inl trivial⟩⟩⟩) (fun m a _ _ => ⟨fun _ => rfl,.inl trivial⟩) hl r e
    exact VRs.age (Γ := ⟨Γ.K,fun _ => none,fun _ => True,m0⟩) (Γ' := ⟨Γ.K,H,fun _ => True,m0⟩) (μ := m0.map some) rfl (fun a _ _ => trivial) (fun a o _ n => n) (Jij e) r1
theorem home {K : PySem.W.Frag} (hK : Γ.K = K) (R : Rep Γ μ σ H env S) {N : Addr → Prop} {m0 : List Addr} {v : V} {r : D} (lv : ∀ a,Live μ a → ∃ xs,H' a = some (.lst xs)) (hp : Ja4 r = true) (c : newD r = true ∨ ∀ a,N a → ¬ Live μ a ∧ (Γ.N a ∨ Γ.H0 a = none))
    (rv : VR ⟨K,H,N,m0⟩ (m0.map some) H' v r) : VR Γ μ H' v r := by
  subst hK
  rcases c with c | c
  · exact VR.new (fun a xs n o hb => ⟨R.ok (o.1 rfl) true,R.dead (o.1 rfl)⟩) c rv
  · refine VR.pure (Γ := ⟨Γ.K,H,N,m0⟩) (Γ' := Γ) rfl (fun m a xs n o hb => ?_) (fun a o hb n hx z => ?_) hp rv
    · rcases o.2 with z | z
      · refine ⟨⟨fun hm => R.fresh (o.1 hm),(c a z).2⟩,(c a z).1⟩
      · exact ⟨R.ok z m,R.dead z⟩
    · obtain ⟨xs,q⟩ := lv a z
      rw [q] at hb
      exact hx xs (Option.some.inj hb).symm
theorem Rep.adopt (R : Rep Γ μ σ H env S) (sm : Same H H') {a : Addr} {xs : List V} {ds : List D} (hn : H a = none) (ha : H' a = some (.lst xs)) (hf : Jd9 ds = true) {Γ' : Fr} {μ' : Mu} (rs : VRs Γ' μ' H' xs ds) :
    Rep Γ (μ ++ [some a]) σ H' env (S ++ [some ds]) ∧ Ext μ H (μ ++ [some a]) H' := by
  have ne : ∀ b o,H b = some o → b ≠ a := fun b o h z => by rw [z,hn] at h; cases h
  have x : Ext μ H (μ ++ [some a]) H' := by
    refine ⟨fun b o h n => ⟨sm b o h,fun z => ?_⟩,fun b ys h => sm b _ h,fun b h => sm.free h,fun i b hi h => ?_,by rw [List.length_append]; omega⟩
    · rcases List.mem_append.mp z with z | z
      · exact n z
      · have z' : b = a := by simpa using z
        exact ne b o h z'
    · rw [List.getElem?_append_left hi] at h; exact h
  have idx : ∀ i b,(μ ++ [some a])[i]? = some (some b) → (i < μ.length ∧ μ[i]? = some (some b)) ∨ (i = μ.length ∧ b = a) := fun i b h => by
    by_cases hi : i < μ.length
    · rw [List.getElem?_append_left hi] at h; exact .inl ⟨hi,h⟩
    · rw [List.getElem?_append_right (by omega)] at h
      have hl := (List.getElem?_eq_some_iff.mp h).1
      have hi' : i = μ.length := by simp at hl; omega
      subst hi'
      simp at h
      exact .inr ⟨rfl,h.symm⟩
  have no : ∀ i,μ[i]? = some (some a) → False := fun i h => R.dead hn (List.mem_of_getElem? h)
  refine ⟨⟨fun i d h => ?_,R.len,fun i es h => ?_,fun i b h => ?_,fun i j b h1 h2 => ?_,by rw [List.length_append,List.length_append,R.slen]; rfl,R.ent.trans x,fun i b hi h => ?_⟩,x⟩
  · obtain ⟨v,h1,h2⟩ := R.vals i d h
    exact ⟨v,h1,h2.ext x⟩
  · by_cases hi : i < S.length
    · rw [List.getElem?_append_left hi] at h
      obtain ⟨b,ys,h1,h2,h3⟩ := R.sto i es h
      exact ⟨b,ys,by rw [List.getElem?_append_left (by rw [← R.slen]; exact hi)]; exact h1,sm _ _ h2,h3.ext x⟩
    · rw [List.getElem?_append_right (by omega)] at h
      have hl := (List.getElem?_eq_some_iff.mp h).1
      have hi' : i = S.length := by simp at hl; omega
      subst hi'
      simp at h
      subst h
      exact ⟨a,xs,by rw [R.slen]; simp,ha,VRs.flat hf rs⟩
  · rcases idx i b h with ⟨hi,h⟩ | ⟨rfl,rfl⟩
    · obtain ⟨ds',q⟩ := R.liv i b h
      exact ⟨ds',by rw [List.getElem?_append_left (by rw [R.slen]; exact hi)]; exact q⟩
    · exact ⟨ds,by rw [← R.slen]; simp⟩
  · rcases idx i b h1 with ⟨_,g1⟩ | ⟨e1,e2⟩
    · rcases idx j b h2 with ⟨_,g2⟩ | ⟨e3,e4⟩
      · exact R.inj i j b g1 g2
      · exact (no i (e4 ▸ g1)).elim
    · rcases idx j b h2 with ⟨_,g2⟩ | ⟨e3,_⟩
      · exact (no j (e2 ▸ g2)).elim
      · rw [e1,e3]
  · rcases idx i b h with ⟨_,h⟩ | ⟨rfl,rfl⟩
    · exact R.new i b hi h
    · exact R.fresh hn
end
theorem Jpl {Γ : Fr} {μ : Mu} {H : Hp} {n : Nat} : ∀ {vs : List V} {ds : List D} {p : List D × List D},Jrl n ds = some p → VRs Γ μ H vs ds →
    ∃ a xs,Γ.Ok true a ∧ H a = some (.lst xs) ∧ VRs Γ μ H xs p.2 ∧ Jd9 p.2 = true ∧ ∀ (Γ' : Fr) (μ' : Mu),μ'[n]? = some (some a) → VRs Γ' μ' H vs p.1
  | _,[],_,h,_ => by cases h
  | _,d :: r,p,h,.cons (xs := vr) rd rr => by
    unfold Jrl at h
    by_cases hf : Jdl d = true
    · rw [if_pos hf] at h
      obtain ⟨q,e1,e2⟩ := map_some h
      subst e2
      obtain ⟨a,xs,h1,h2,h3,h4,h5⟩ := Jpl e1 rr
      exact ⟨a,xs,h1,h2,h3,h4,fun Γ' μ' z => .cons (VR.flat hf rd) (h5 Γ' μ' z)⟩
    · rw [if_neg hf] at h
      split at h
      · rename_i ds
        by_cases hg : (Jd9 ds && Jd9 r) = true
        · rw [if_pos hg] at h
          cases h
          rw [Bool.and_eq_true] at hg
          cases rd with
          | @lst _ a xs _ o nl hb t =>
            refine ⟨a,xs,o,hb,t,hg.1,fun Γ' μ' z => .cons (.ref (List.getElem?_eq_some_iff.mp z).1 fun b hb' => ?_) (VRs.flat hg.2 rr)⟩
            rw [z] at hb'; cases hb'; rfl
        · rw [if_neg hg] at h; cases h
      · cases h
theorem Jrk {Γ : Fr} {μ : Mu} {H : Hp} {n : Nat} {v : V} {d : D} {p : D × List D} (h : thaw n d = some p) (r : VR Γ μ H v d) :
    ∃ a xs,Γ.Ok true a ∧ H a = some (.lst xs) ∧ VRs Γ μ H xs p.2 ∧ Jd9 p.2 = true ∧ ∀ (Γ' : Fr) (μ' : Mu),μ'[n]? = some (some a) → VR Γ' μ' H v p.1 := by
  unfold thaw at h
  split at h
  · rename_i ds
    by_cases hg : Jd9 ds = true
    · rw [if_pos hg] at h
      cases h
      cases r with
      | @lst _ a xs _ o nl hb t =>
        refine ⟨a,xs,o,hb,t,hg,fun Γ' μ' z => .ref (List.getElem?_eq_some_iff.mp z).1 fun b hb' => ?_⟩
        rw [z] at hb'; cases hb'; rfl
    · rw [if_neg hg] at h; cases h
  · rename_i es
    obtain ⟨q,e1,e2⟩ := map_some h
    subst e2
    cases r with
    | @tup b xs _ hb t =>
      obtain ⟨a,ys,h1,h2,h3,h4,h5⟩ := Jpl e1 t
      exact ⟨a,ys,h1,h2,h3,h4,fun Γ' μ' z => .tup hb (h5 Γ' μ' z)⟩
  · cases h
section
variable {X : Cx} {x : Str} {k k' : Nat} {e : Expr} {es : List Expr} {f : ASem} {p pos : Pos}
theorem Jbv {sem : PSem} (c : CalP X.prog X.w X.K X.mg X.base x k sem) (hr : Room k' X.A) (hk : k ≤ k') (hg : Gl X x) (ha : JA X (e :: es) f)
    (hdb : (x == ("__debug__" : Str)) = false := by decide) (he : starEach (e :: es) X.env = (false,eval e X.env) :: starEach es X.env := by rfl) (hpl : (backTo pos (starEach es X.env)).any (·.1) = false := by rfl) :
    JE X (.Call (.Name x p) (e :: es) [] pos) (Jbc sem f) := by
  obtain ⟨ps,c,hok⟩ := c.cal
  refine ⟨PE.imp (Jju c hr hk hg ha.pa hdb he hpl) fun σ H Q h => ?_⟩
  obtain ⟨Γ,μ,env,S,d,S',hK,R,e,q⟩ := h
  obtain ⟨⟨as,S1⟩,e1,e⟩ := bind_some e
  obtain ⟨ds,e2,e⟩ := bind_some e
  obtain ⟨r,e3,e⟩ := bind_some e
  refine ⟨Γ,μ,env,S,as,S1,hK,R,e1,fun vs μ1 H1 x1 R1 r1 => ?_⟩
  show spP X.K sem ps.length (vs ++ []) H1 Q E0
  rw [List.append_nil]
  dsimp only at e e2
  by_cases hc : (Jax as || newD r) = true
  · rw [if_pos hc] at e
    cases e
    obtain ⟨hl,hp⟩ := hok _ _ e3
    obtain ⟨N,rs,cN⟩ := lend hK R1 (m0 := []) r1 e2 (fun i ds a hs => ⟨hs,fun _ => Jfm⟩) (fun a z => by simp at z) (newD d) hc
    refine ⟨N,_,d,?_,rs,e3,fun v H' sm rv => ?_⟩
    · rw [rs.length,hl]
    obtain ⟨R2,x2⟩ := R1.grow sm
    exact q v μ1 H' (x1.trans x2) R2 (home hK R1 (fun a z => R2.live z) hp cN rv)
  · rw [if_neg hc] at e; cases e
theorem Jvh {sem : PSem} (c : CalP X.prog X.w X.K X.mg X.base x k sem) (hr : Room k' X.A) (hk : k ≤ k') (hg : Gl X x) (ha : JA X (e :: es) f)
    (hdb : (x == ("__debug__" : Str)) = false := by decide) (he : starEach (e :: es) X.env = (false,eval e X.env) :: starEach es X.env := by rfl) (hpl : (backTo pos (starEach es X.env)).any (·.1) = false := by rfl) :
    JE X (.Call (.Name x p) (e :: es) [] pos) (Jn8 sem f) := by
  obtain ⟨ps,c,hok⟩ := c.cal
  refine ⟨PE.imp (Jju c hr hk hg ha.pa hdb he hpl) fun σ H Q h => ?_⟩
  obtain ⟨Γ,μ,env,S,d,S',hK,R,e,q⟩ := h
  obtain ⟨⟨d0,S0⟩,e0,e⟩ := bind_some e
  obtain ⟨t,et,e⟩ := bind_some e
  cases e
  obtain ⟨⟨as,S1⟩,e1,e⟩ := bind_some e0
  obtain ⟨ds,e2,e⟩ := bind_some e
  obtain ⟨r,e3,e⟩ := bind_some e
  refine ⟨Γ,μ,env,S,as,S1,hK,R,e1,fun vs μ1 H1 x1 R1 r1 => ?_⟩
  show spP X.K sem ps.length (vs ++ []) H1 Q E0
  rw [List.append_nil]
  dsimp only at e e2
  by_cases hc : (Jax as || newD r) = true
  · rw [if_pos hc] at e
    cases e
    obtain ⟨hl,hp⟩ := hok _ _ e3
    obtain ⟨N,rs,cN⟩ := lend hK R1 (m0 := []) r1 e2 (fun i ds a hs => ⟨hs,fun _ => Jfm⟩) (fun a z => by simp at z) (newD d0) hc
    refine ⟨N,_,d0,?_,rs,e3,fun v H' sm rv => ?_⟩
    · rw [rs.length,hl]
    obtain ⟨a,xs,h1,h2,h3,h4,h5⟩ := Jrk et rv
    obtain ⟨R2,x2⟩ := R1.adopt sm (h1.1 rfl) h2 h4 h3
    exact q v _ H' (x1.trans x2) R2 (h5 _ _ (by rw [R1.slen]; simp))
  · rw [if_neg hc] at e; cases e
theorem Jbw {sem : MSem} (c : CalM X.prog X.w X.K X.mg X.base x k sem) (hr : Room k' X.A) (hk : k ≤ k') (hg : Gl X x) (ha : JA X (e :: es) f)
    (hdb : (x == ("__debug__" : Str)) = false := by decide) (he : starEach (e :: es) X.env = (false,eval e X.env) :: starEach es X.env := by rfl) (hpl : (backTo pos (starEach es X.env)).any (·.1) = false := by rfl) :
    JE X (.Call (.Name x p) (e :: es) [] pos) (Jby sem f) := by
  obtain ⟨ps,c,hok⟩ := c.cal
  refine ⟨PE.imp (Jju c hr hk hg ha.pa hdb he hpl) fun σ H Q h => ?_⟩
  obtain ⟨Γ,μ,env,S,d,S',hK,R,e,q⟩ := h
  obtain ⟨⟨as,S1⟩,e1,e⟩ := bind_some e
  refine ⟨Γ,μ,env,S,as,S1,hK,R,e1,fun vs μ1 H1 x1 R1 r1 => ?_⟩
  show spM X.K sem ps.length (vs ++ []) H1 Q E0
  rw [List.append_nil]
  dsimp only at e
  split at e
  · rename_i i rest
    split at e
    · rename_i cs hcs
      obtain ⟨ns,e4,e⟩ := bind_some e
      obtain ⟨ds,e2,e⟩ := bind_some e
      obtain ⟨⟨r,ms⟩,e3,e⟩ := bind_some e
      dsimp only at e
      by_cases hc : (Jax rest || newD r) = true
      · rw [if_pos hc] at e
        cases e
        obtain ⟨hl,hp⟩ := hok _ _ _ e3
        have ecs := Jdg e4
        subst ecs
        cases r1 with
        | @cons v0 _ us _ r0 rr =>
          obtain ⟨a,xs,rfl,h1,h2,h3⟩ := VR.refI R1 r0 hcs
          have ex := h3.Jnv
          subst ex
          have hi : i < S1.length := (List.getElem?_eq_some_iff.mp hcs).1
          obtain ⟨N,rs,cN⟩ := lend hK R1 (S0 := S1.set i none) (m0 := [a]) rr e2 (fun j es b hs => by
            have hj : i ≠ j := fun z => by
              subst z
              rw [List.getElem?_set_self hi] at hs; cases hs
            rw [List.getElem?_set_ne hj] at hs
            exact ⟨hs,fun hm z => hj (R1.inj i j a h1 (by rw [show a = b from (Jib.mp z).symm]; exact hm))⟩) (fun b z => by
              have : b = a := by simpa using z
              rw [this]; exact List.mem_of_getElem? h1) (newD d) hc
          refine ⟨N,a,us,ns,_,d,ms,rfl,?_,h2,rs,e3,fun v H' sm ha' rv => ?_⟩
          · rw [List.length_cons,rs.length,hl]
          obtain ⟨R2,x2⟩ := R1.put h1 (VRs.ints ms)
          have sm2 : Same (upd H1 a (.lst (ms.map V.int))) H' := fun b o hb => by
            by_cases z : b = a
            · rw [z,Ja6] at hb; cases hb; rw [z]; exact ha'
            · rw [Ja5 z] at hb; exact sm b o z hb
          obtain ⟨R3,x3⟩ := R2.grow sm2
          exact q v μ1 H' (x1.trans (x2.trans x3)) R3 (home hK R1 (fun a z => R3.live z) hp cN rv)
      · rw [if_neg hc] at e; cases e
    · cases e
  · cases e
theorem Jvi {sem : MSem} (c : CalM X.prog X.w X.K X.mg X.base x k sem) (hr : Room k' X.A) (hk : k ≤ k') (hg : Gl X x) (ha : JA X (e :: es) f)
    (hdb : (x == ("__debug__" : Str)) = false := by decide) (he : starEach (e :: es) X.env = (false,eval e X.env) :: starEach es X.env := by rfl) (hpl : (backTo pos (starEach es X.env)).any (·.1) = false := by rfl) :
    JE X (.Call (.Name x p) (e :: es) [] pos) (Jn9 sem f) := by
  obtain ⟨ps,c,hok⟩ := c.cal
  refine ⟨PE.imp (Jju c hr hk hg ha.pa hdb he hpl) fun σ H Q h => ?_⟩
  obtain ⟨Γ,μ,env,S,d,S',hK,R,e,q⟩ := h
  obtain ⟨⟨d0,S0⟩,e0,e⟩ := bind_some e
  obtain ⟨t,et,e⟩ := bind_some e
  cases e
  obtain ⟨⟨as,S1⟩,e1,e⟩ := bind_some e0
  refine ⟨Γ,μ,env,S,as,S1,hK,R,e1,fun vs μ1 H1 x1 R1 r1 => ?_⟩
  show spM X.K sem ps.length (vs ++ []) H1 Q E0
  rw [List.append_nil]
  dsimp only at e
  split at e
  · rename_i i rest
    split at e
    · rename_i cs hcs
      obtain ⟨ns,e4,e⟩ := bind_some e
      obtain ⟨ds,e2,e⟩ := bind_some e
      obtain ⟨⟨r,ms⟩,e3,e⟩ := bind_some e
      dsimp only at e
      by_cases hc : (Jax rest || newD r) = true
      · rw [if_pos hc] at e
        cases e
        obtain ⟨hl,hp⟩ := hok _ _ _ e3
        have ecs := Jdg e4
        subst ecs
        cases r1 with
        | @cons v0 _ us _ r0 rr =>
          obtain ⟨a,xs,rfl,h1,h2,h3⟩ := VR.refI R1 r0 hcs
          have ex := h3.Jnv
          subst ex
          have hi : i < S1.length := (List.getElem?_eq_some_iff.mp hcs).1
          obtain ⟨N,rs,cN⟩ := lend hK R1 (S0 := S1.set i none) (m0 := [a]) rr e2 (fun j es b hs => by
            have hj : i ≠ j := fun z => by
              subst z
              rw [List.getElem?_set_self hi] at hs; cases hs
            rw [List.getElem?_set_ne hj] at hs
            exact ⟨hs,fun hm z => hj (R1.inj i j a h1 (by rw [show a = b from (Jib.mp z).symm]; exact hm))⟩) (fun b z => by
              have : b = a := by simpa using z
              rw [this]; exact List.mem_of_getElem? h1) (newD d0) hc
          refine ⟨N,a,us,ns,_,d0,ms,rfl,?_,h2,rs,e3,fun v H' sm ha' rv => ?_⟩
          · rw [List.length_cons,rs.length,hl]
          obtain ⟨R2,x2⟩ := R1.put h1 (VRs.ints ms)
          have sm2 : Same (upd H1 a (.lst (ms.map V.int))) H' := fun b o hb => by
            by_cases z : b = a
            · rw [z,Ja6] at hb; cases hb; rw [z]; exact ha'
            · rw [Ja5 z] at hb; exact sm b o z hb
          obtain ⟨b,ys,g1,g2,g3,g4,g5⟩ := Jrk et rv
          have hb : upd H1 a (.lst (ms.map V.int)) b = none := by
            have hn : H1 b = none := g1.1 rfl
            rw [Ja5 (fun z => by rw [z,h2] at hn; cases hn)]; exact hn
          obtain ⟨R3,x3⟩ := R2.adopt sm2 hb g2 g4 g3
          exact q v _ H' (x1.trans (x2.trans x3)) R3 (g5 _ _ (by rw [List.length_set,R1.slen]; simp))
      · rw [if_neg hc] at e; cases e
    · cases e
  · cases e
end
end VS
end
section
set_option Elab.async false
set_option maxRecDepth 10000
set_option linter.all false
namespace VS
open PySem PySem.Spec L2
theorem OpR.or {X : Cx} {f : Value → Value → Sem Value} {r r' : R2} (h : OpR X f r) (h' : OpR X f r') : OpR X f (fun x y H Q => r x y H Q ∨ r' x y H Q) := fun pins s σ H x y v u Q I rx ry q => q.elim (fun z => h pins s σ H x y v u Q I rx ry z) fun z => h' pins s σ H x y v u Q I rx ry z
theorem Jdp.or {X : Cx} {f : Value} {r r' : List V → Hp → VK → Prop} (h : Jdp X f r) (h' : Jdp X f r') : Jdp X f (fun xs H Q => r xs H Q ∨ r' xs H Q) := fun pins s σ H xs us Q I rs q => q.elim (fun z => h pins s σ H xs us Q I rs z) fun z => h' pins s σ H xs us Q I rs z
def oI (c : Int → Int → Bool) (g : Int → Int → D) (_ : Store) : D → D → Option D
  | .int i,.int j => if c i j = true then some (g i j) else none
  | _,_ => none
def yes2 (_ _ : Int) : Bool := true
theorem Jxs {K : PySem.W.Frag} {C : Int → Int → Prop} {c : Int → Int → Bool} (g : Int → Int → Int) (hc : ∀ i j,c i j = true → C i j) : Sem2 K (rI C fun i j => .int (g i j)) (oI c fun i j => .int (g i j)) := by
  intro Γ μ σ H env S x y dx dy d hK R rx ry e Q q
  unfold oI at e
  split at e
  · rename_i i j
    by_cases h : c i j = true
    · rw [if_pos h] at e; cases e; cases rx; cases ry
      exact ⟨i,j,rfl,rfl,hc i j h,q _ H (Same.refl H) (.int _)⟩
    · rw [if_neg h] at e; cases e
  · cases e
theorem Jz0 {K : PySem.W.Frag} (g : Int → Int → Int) : Sem2 K (rI0 fun i j => .int (g i j)) (oI yes2 fun i j => .int (g i j)) := by
  intro Γ μ σ H env S x y dx dy d hK R rx ry e Q q
  unfold oI at e
  split at e
  · rename_i i j
    rw [if_pos (show yes2 i j = true from rfl)] at e; cases e; cases rx; cases ry
    exact ⟨i,j,rfl,rfl,q _ H (Same.refl H) (.int _)⟩
  · cases e
theorem Jpp {K : PySem.W.Frag} (g : Int → Int → Bool) : Sem2 K (rI0 fun i j => .bl (g i j)) (oI yes2 fun i j => .bl (g i j)) := by
  intro Γ μ σ H env S x y dx dy d hK R rx ry e Q q
  unfold oI at e
  split at e
  · rename_i i j
    rw [if_pos (show yes2 i j = true from rfl)] at e; cases e; cases rx; cases ry
    exact ⟨i,j,rfl,rfl,q _ H (Same.refl H) (.bl _)⟩
  · cases e
def oSub := oI yes2 fun i j => .int (i - j)
def cMul (i j : Int) : Bool := (decide (-(2 ^ 64) < i) && decide (i < 2 ^ 64)) || (decide (-(2 ^ 64) < j) && decide (j < 2 ^ 64))
def cDiv (_ j : Int) : Bool := decide (0 < j) && decide (j < 2 ^ 64)
def cMod (_ j : Int) : Bool := decide (0 < j)
def cPow (i j : Int) : Bool := decide (0 ≤ j) && decide (j ≤ 1000000) && decide (i.natAbs < 2 ^ 64)
def oDiv := oI cDiv fun i j => .int (i / j)
def oMod := oI cMod fun i j => .int (i % j)
def oPow := oI cPow fun i j => .int (i ^ j.toNat)
def oLt := oI yes2 fun i j => .bl (decide (i < j))
def oLe := oI yes2 fun i j => .bl (decide (i ≤ j))
def oGt := oI yes2 fun i j => .bl (decide (j < i))
def oGe := oI yes2 fun i j => .bl (decide (j ≤ i))
theorem Jf7 {K : PySem.W.Frag} : Sem2 K (rI0 fun i j => .int (i - j)) oSub := Jz0 _
theorem Jrs {K : PySem.W.Frag} : Sem2 K (rI (fun _ j => 0 < j ∧ j < 2 ^ 64) fun i j => .int (i / j)) oDiv := Jxs _ fun i j h => by simpa [cDiv] using h
theorem Jhs {K : PySem.W.Frag} : Sem2 K (rI (fun _ j => 0 < j) fun i j => .int (i % j)) oMod := Jxs _ fun i j h => by simpa [cMod] using h
theorem Jf8 {K : PySem.W.Frag} : Sem2 K (rI CPow fun i j => .int (i ^ j.toNat)) oPow := Jxs _ fun i j h => by simpa [cPow,CPow,and_assoc] using h
theorem Jm9 {K : PySem.W.Frag} : Sem2 K (rI0 fun i j => .bl (decide (i < j))) oLt := Jpp _
theorem Jwe {K : PySem.W.Frag} : Sem2 K (rI0 fun i j => .bl (decide (i ≤ j))) oLe := Jpp _
theorem Jna {K : PySem.W.Frag} : Sem2 K (rI0 fun i j => .bl (decide (j < i))) oGt := Jpp _
theorem Jwf {K : PySem.W.Frag} : Sem2 K (rI0 fun i j => .bl (decide (j ≤ i))) oGe := Jpp _
def oNeg (_ : Store) : D → Option D
  | .int i => some (.int (-i))
  | _ => none
theorem Jrr {K : PySem.W.Frag} : Sem1 K (rU fun i => .int (-i)) oNeg := by
  intro Γ μ σ H env S x dx d hK R rx e Q q
  unfold oNeg at e
  split at e
  · cases e; cases rx; exact ⟨_,rfl,q _ H (Same.refl H) (.int _)⟩
  · cases e
def oAdd (S : Store) : D → D → Option D
  | .int i,.int j => some (.int (i + j))
  | .tup a,.tup b => if a.length + b.length ≤ 1000000 then some (.tup (a ++ b)) else none
  | .str x,.str y => if x.length + y.length ≤ 1000000 then some (.str (x ++ y)) else none
  | x,y => (listOf S x).bind fun a => (listOf S y).bind fun b => if a.length + b.length ≤ 1000000 then some (.lst true (a ++ b)) else none
def Jz6 : R2 := fun x y H Q => ∃ (a b : Addr) (xs ys : List V),x = .ref a ∧ y = .ref b ∧ H a = some (.tup xs) ∧ H b = some (.tup ys) ∧ xs.length + ys.length ≤ sizeLine ∧ ∀ p H',Same H H' → H' p = some (.tup (xs ++ ys)) → Q (.ref p) H'
def JCv : R2 := fun x y H Q => ∃ i j,x = .str i ∧ y = .str j ∧ i.length + j.length ≤ sizeLine ∧ Q (.str (i ++ j)) H
def Jz7 : R2 := fun x y H Q => (rI0 fun i j => .int (i + j)) x y H Q ∨ Jz6 x y H Q ∨ JCv x y H Q ∨ rCat x y H Q
theorem Jba {X : Cx} : OpR X (binaryOp .Add) Jz7 := OpR.or JA1 (OpR.or Jyg (OpR.or Jqt JA0))
theorem Ja9 {K : PySem.W.Frag} : Sem2 K Jz7 oAdd := by
  intro Γ μ σ H env S x y dx dy d hK R rx ry e Q q
  unfold oAdd at e
  split at e
  · cases e; cases rx; cases ry; exact .inl ⟨_,_,rfl,rfl,q _ H (Same.refl H) (.int _)⟩
  · rename_i a b
    by_cases h : a.length + b.length ≤ 1000000
    · rw [if_pos h] at e; cases e
      cases rx with
      | @tup p xs _ hp rp =>
        cases ry with
        | @tup p2 ys _ hp2 rp2 =>
          refine .inr (.inl ⟨p,p2,xs,ys,rfl,rfl,hp,hp2,by rw [rp.length,rp2.length]; exact Nat.le_of_lt (big h),fun t H' sm ht => ?_⟩)
          obtain ⟨R2,x2⟩ := R.grow sm
          exact q _ H' sm (.tup ht ((rp.append rp2).ext x2))
    · rw [if_neg h] at e; cases e
  · rename_i a b
    by_cases h : a.length + b.length ≤ 1000000
    · rw [if_pos h] at e; cases e; cases rx; cases ry
      exact .inr (.inr (.inl ⟨_,_,rfl,rfl,Nat.le_of_lt (big h),q _ H (Same.refl H) (.str _)⟩))
    · rw [if_neg h] at e; cases e
  · obtain ⟨a,e1,e⟩ := bind_some e
    obtain ⟨b,e2,e⟩ := bind_some e
    by_cases h : a.length + b.length ≤ 1000000
    · rw [if_pos h] at e; cases e
      obtain ⟨p,xs,rfl,hp,rp⟩ := VR.list R rx e1
      obtain ⟨p2,ys,rfl,hp2,rp2⟩ := VR.list R ry e2
      refine .inr (.inr (.inr ⟨p,p2,xs,ys,rfl,rfl,hp,hp2,by rw [rp.length,rp2.length]; exact Nat.le_of_lt (big h),fun t ht => ?_⟩))
      obtain ⟨R2,x2⟩ := R.grow (Jbt ht (.lst (xs ++ ys)))
      exact q _ _ (Jbt ht _) (.lst (R.ok ht true) (R.dead ht) Ja6 ((rp.append rp2).ext x2))
    · rw [if_neg h] at e; cases e
def oMul (S : Store) : D → D → Option D
  | .int i,.int j => if cMul i j = true then some (.int (i * j)) else none
  | .tup a,.int k => if a ≠ [] ∧ 1 ≤ k ∧ k < 2 ^ 60 ∧ a.length * k.toNat ≤ 1000000 then some (.tup (List.replicate k.toNat a).flatten) else none
  | x,.int k => (listOf S x).bind fun a => if -(2 ^ 63) ≤ k ∧ k < 2 ^ 63 ∧ a.length * k.toNat ≤ 1000000 then some (.lst true (List.replicate k.toNat a).flatten) else none
  | _,_ => none
def Jz5 : R2 := fun x y H Q => (rI CMul fun i j => .int (i * j)) x y H Q ∨ Jz4 x y H Q ∨ rRep x y H Q
theorem Jis {X : Cx} : OpR X (binaryOp .Mult) Jz5 := OpR.or JAu (OpR.or Jyd JAs)
theorem Jin {K : PySem.W.Frag} : Sem2 K Jz5 oMul := by
  intro Γ μ σ H env S x y dx dy d hK R rx ry e Q q
  unfold oMul at e
  split at e
  · rename_i i j
    by_cases h : cMul i j = true
    · rw [if_pos h] at e; cases e; cases rx; cases ry
      exact .inl ⟨_,_,rfl,rfl,by simpa [cMul,CMul] using h,q _ H (Same.refl H) (.int _)⟩
    · rw [if_neg h] at e; cases e
  · rename_i a k
    by_cases h : a ≠ [] ∧ 1 ≤ k ∧ k < 2 ^ 60 ∧ a.length * k.toNat ≤ 1000000
    · rw [if_pos h] at e; cases e
      cases ry
      cases rx with
      | @tup p xs _ hp rp =>
        have hl := rp.length
        refine .inr (.inl ⟨p,k,xs,rfl,rfl,hp,fun z => h.1 (List.length_eq_zero_iff.mp (by rw [← hl,z]; rfl)),h.2.1,h.2.2.1,by rw [hl]; exact Nat.le_of_lt (big h.2.2.2),fun t H' sm ht => ?_⟩)
        obtain ⟨R2,x2⟩ := R.grow sm
        exact q _ H' sm (.tup ht ((rp.rep _).ext x2))
    · rw [if_neg h] at e; cases e
  · rename_i k _ _
    obtain ⟨a,e1,e⟩ := bind_some e
    by_cases h : -(2 ^ 63) ≤ k ∧ k < 2 ^ 63 ∧ a.length * k.toNat ≤ 1000000
    · rw [if_pos h] at e; cases e
      cases ry
      obtain ⟨p,xs,rfl,hp,rp⟩ := VR.list R rx e1
      refine .inr (.inr ⟨p,k,xs,rfl,rfl,hp,h.1,h.2.1,by rw [rp.length]; exact Nat.le_of_lt (big h.2.2),fun t ht => ?_⟩)
      obtain ⟨R2,x2⟩ := R.grow (Jbt ht (.lst (List.replicate k.toNat xs).flatten))
      exact q _ _ (Jbt ht _) (.lst (R.ok ht true) (R.dead ht) Ja6 ((rp.rep _).ext x2))
    · rw [if_neg h] at e; cases e
  · cases e
def oIx (S : Store) : D → D → Option D
  | x,.int i => (Jav S x).bind fun ds => atI ds i
  | _,_ => none
theorem Jzm {Γ : Fr} {μ : Mu} {H : Hp} {xs : List V} {ds : List D} {i : Int} {d : D} (r : VRs Γ μ H xs ds) (h : atI ds i = some d) : ∃ x,atI xs i = some x ∧ VR Γ μ H x d := by
  unfold atI at h ⊢
  obtain ⟨j,e1,e2⟩ := bind_some h
  obtain ⟨x,f1,f2⟩ := r.get e2
  exact ⟨x,by rw [r.length,e1]; exact f1,f2⟩
theorem Ja0 {K : PySem.W.Frag} : Sem2 K (rIx K) oIx := by
  intro Γ μ σ H env S x y dx dy d hK R rx ry e Q q
  unfold oIx at e
  split at e
  · rename_i i
    obtain ⟨ds,e1,e⟩ := bind_some e
    cases ry
    obtain ⟨a,xs,rfl,hq,rs⟩ := VR.seq hK R rx e1
    obtain ⟨v,f1,f2⟩ := Jzm rs e
    rcases hq with hq | hq
    · exact .inl ⟨a,xs,i,v,rfl,rfl,hq,f1,q _ H (Same.refl H) f2⟩
    · exact .inr (.inl ⟨a,xs,i,v,rfl,rfl,hq,f1,q _ H (Same.refl H) f2⟩)
  · cases e
def cut (xs : List D) (lo hi : Option Int) : List D := (xs.drop (HT.sIx xs.length 0 lo)).take (HT.sIx xs.length xs.length hi - HT.sIx xs.length 0 lo)
def oSl (S : Store) (x : D) (lo hi : Option Int) : Option D := match x with
  | .tup ds => some (.tup (cut ds lo hi))
  | x => (Jav S x).map fun ds => .lst true (cut ds lo hi)
def rSlG : V → Option Int → Option Int → Hp → VK → Prop := fun x lo hi H Q => ∃ (a : Addr) (xs : List V),x = .ref a ∧ H a = some (.tup xs) ∧ ∀ p H',Same H H' → H' p = some (.tup (cutV xs lo hi)) → Q (.ref p) H'
def rSl2 (K : PySem.W.Frag) : V → Option Int → Option Int → Hp → VK → Prop := fun x lo hi H Q => rSlG x lo hi H Q ∨ rSlL K x lo hi H Q
theorem Jgu {X : Cx} : SlR X (rSl2 X.K) := SlR.or Jxl Jxm
theorem Jgv {K : PySem.W.Frag} : JB1 K (rSl2 K) oSl := by
  intro Γ μ σ H env S x dx d l h hK R rx e Q q
  have key : ∀ {xs : List V} {ds : List D} {H' : Hp},VRs Γ μ H' xs ds → VRs Γ μ H' (cutV xs l h) (cut ds l h) := fun r => by
    unfold cutV cut
    rw [r.length]
    exact (r.drop _).take _
  unfold oSl at e
  split at e
  · cases e
    cases rx with
    | @tup p xs _ hp rp =>
      refine .inl ⟨p,xs,rfl,hp,fun t H' sm ht => ?_⟩
      obtain ⟨R2,x2⟩ := R.grow sm
      exact q _ H' sm (.tup ht (key (rp.ext x2)))
  · rename_i ht
    obtain ⟨ds,e1,e2⟩ := map_some e
    subst e2
    rcases VR.seqL hK R rx e1 with ⟨es,z⟩ | ⟨a,xs,rfl,hq,rs⟩
    · exact absurd z (ht es)
    · refine .inr ⟨a,xs,rfl,hq,fun t htt => ?_⟩
      obtain ⟨R2,x2⟩ := R.grow (Jbt htt (.lst (cutV xs l h)))
      exact q _ _ (Jbt htt _) (.lst (R.ok htt true) (R.dead htt) Ja6 (key (rs.ext x2)))
def bLen (S : Store) : List D → Option D
  | [x] => (Jav S x).map fun ds => .int ds.length
  | _ => none
theorem Jcu {K : PySem.W.Frag} : SemC K (rLen K) bLen := by
  intro Γ μ σ H env S xs ds d hK R rs e Q q
  unfold bLen at e
  split at e
  · obtain ⟨es,e1,e2⟩ := map_some e
    subst e2
    obtain ⟨v,rfl,r⟩ := rs.one
    obtain ⟨a,xs,rfl,hq,rx⟩ := VR.seq hK R r e1
    refine ⟨a,xs,rfl,hq,?_⟩
    rw [rx.length]
    exact q _ H (Same.refl H) (.int _)
  · cases e
def bTup (S : Store) : List D → Option D
  | [x] => (Jav S x).map fun ds => .tup ds
  | _ => none
theorem Jh8 {K : PySem.W.Frag} : SemC K (Jut K) bTup := by
  intro Γ μ σ H env S xs ds d hK R rs e Q q
  unfold bTup at e
  split at e
  · rename_i x
    obtain ⟨es,e1,e2⟩ := map_some e
    subst e2
    obtain ⟨v,rfl,r⟩ := rs.one
    rcases VR.seqL hK R r e1 with ⟨fs,rfl⟩ | ⟨a,xs,rfl,hq,rx⟩
    · cases r with
      | @tup p xs _ hp rp => cases e1; exact ⟨p,xs,rfl,.inr ⟨SqT.of hp,q _ H (Same.refl H) (.tup hp rp)⟩⟩
    · refine ⟨a,xs,rfl,.inl ⟨hq,fun l hl => ?_⟩⟩
      obtain ⟨R2,x2⟩ := R.grow (Jbt hl (.tup xs))
      exact q _ _ (Jbt hl _) (.tup Ja6 (rx.ext x2))
  · cases e
def bAll (S : Store) : List D → Option D
  | [x] => (listOf S x).bind fun ds => (boolsOf ds).map fun bs => .bl (bs.all id)
  | _ => none
where boolsOf : List D → Option (List Bool)
  | [] => some []
  | .bl b :: r => (boolsOf r).map (b :: ·)
  | _ => none
@[simp] theorem Jpd (bs : List Bool) : bAll.boolsOf (bs.map D.bl) = some bs := by
  induction bs with
  | nil => rfl
  | cons b r ih => rw [List.map_cons,bAll.boolsOf,ih]; rfl
theorem Jkv {Γ : Fr} {μ : Mu} {H : Hp} : ∀ {xs : List V} {ds : List D} {bs : List Bool},VRs Γ μ H xs ds → bAll.boolsOf ds = some bs → xs = bs.map V.bl
  | _,[],_,.nil,h => by cases h; rfl
  | _,.bl b :: r,bs,.cons q t,h => by
    rw [bAll.boolsOf] at h
    obtain ⟨cs,e1,e2⟩ := map_some h
    subst e2
    cases q
    rw [List.map_cons,Jkv t e1]
  | _,.non :: _,_,_,h => by cases h
  | _,.int _ :: _,_,_,h => by cases h
  | _,.str _ :: _,_,_,h => by cases h
  | _,.ty _ :: _,_,_,h => by cases h
  | _,.tup _ :: _,_,_,h => by cases h
  | _,.lst _ _ :: _,_,_,h => by cases h
  | _,.ref _ :: _,_,_,h => by cases h
  | _,.scr _ :: _,_,_,h => by cases h
  | _,.emp :: _,_,_,h => by cases h
def rAll (K : PySem.W.Frag) : List V → Hp → VK → Prop := fun xs H Q => ∃ (p : Addr) (bs : List Bool),xs = [.ref p] ∧ SqL K H p (bs.map V.bl) ∧ Q (.bl (bs.all id)) H
theorem Jrt {K : PySem.W.Frag} : SemC K (rAll K) bAll := by
  intro Γ μ σ H env S xs ds d hK R rs e Q q
  unfold bAll at e
  split at e
  · obtain ⟨es,e1,e⟩ := bind_some e
    obtain ⟨bs,e2,e3⟩ := map_some e
    subst e3
    obtain ⟨v,rfl,r⟩ := rs.one
    obtain ⟨a,xs,rfl,ha,rx⟩ := VR.list R r e1
    have := Jkv rx e2
    subst this
    exact ⟨a,bs,rfl,SqL.of ha,q _ H (Same.refl H) (.bl _)⟩
  · cases e
def Jtu (_ : Store) : List D → Option D
  | [.int i,.int j] => some (.int (if j > i then j else i))
  | _ => none
def Jtt (_ : Store) : List D → Option D
  | [.int i,.int j] => some (.int (if j < i then j else i))
  | _ => none
def bAbs (_ : Store) : List D → Option D
  | [.int i] => some (.int (if i < 0 then -i else i))
  | _ => none
def bInt (_ : Store) : List D → Option D
  | [.int i] => some (.int i)
  | [.bl k] => some (.int (if k then 1 else 0))
  | _ => none
theorem Jum {K : PySem.W.Frag} : SemC K (fun xs H Q => ∃ i j,xs = [.int i,.int j] ∧ Q (.int (if j > i then j else i)) H) Jtu := by
  intro Γ μ σ H env S xs ds d hK R rs e Q q
  unfold Jtu at e
  split at e
  · cases e
    obtain ⟨v,u,rfl,r1,r2⟩ := rs.two
    cases r1; cases r2
    exact ⟨_,_,rfl,q _ H (Same.refl H) (.int _)⟩
  · cases e
theorem Juj {K : PySem.W.Frag} : SemC K (fun xs H Q => ∃ i j,xs = [.int i,.int j] ∧ Q (.int (if j < i then j else i)) H) Jtt := by
  intro Γ μ σ H env S xs ds d hK R rs e Q q
  unfold Jtt at e
  split at e
  · cases e
    obtain ⟨v,u,rfl,r1,r2⟩ := rs.two
    cases r1; cases r2
    exact ⟨_,_,rfl,q _ H (Same.refl H) (.int _)⟩
  · cases e
theorem Jru {K : PySem.W.Frag} : SemC K (fun xs H Q => ∃ i,xs = [.int i] ∧ Q (.int (if i < 0 then -i else i)) H) bAbs := by
  intro Γ μ σ H env S xs ds d hK R rs e Q q
  unfold bAbs at e
  split at e
  · cases e
    obtain ⟨v,rfl,r1⟩ := rs.one
    cases r1
    exact ⟨_,rfl,q _ H (Same.refl H) (.int _)⟩
  · cases e
theorem Jxr {K : PySem.W.Frag} : SemC K (fun xs H Q => (∃ i,xs = [.int i] ∧ Q (.int i) H) ∨ ∃ k,xs = [.bl k] ∧ Q (.int (if k then 1 else 0)) H) bInt := by
  intro Γ μ σ H env S xs ds d hK R rs e Q q
  unfold bInt at e
  split at e
  · cases e
    obtain ⟨v,rfl,r1⟩ := rs.one
    cases r1
    exact .inl ⟨_,rfl,q _ H (Same.refl H) (.int _)⟩
  · cases e
    obtain ⟨v,rfl,r1⟩ := rs.one
    cases r1
    exact .inr ⟨_,rfl,q _ H (Same.refl H) (.int _)⟩
  · cases e
def maxI : List Int → Option Int
  | [] => none
  | n :: r => some (r.foldl (fun a b => if a < b then b else a) n)
theorem Jzh (r : List Int) : ∀ n : Int,(r.foldl (fun a b => if a < b then b else a) n = n ∨ r.foldl (fun a b => if a < b then b else a) n ∈ r) ∧ n ≤ r.foldl (fun a b => if a < b then b else a) n ∧ ∀ m ∈ r,m ≤ r.foldl (fun a b => if a < b then b else a) n := by
  induction r with
  | nil => intro n; exact ⟨.inl rfl,Int.le_refl _,fun m h => by simp at h⟩
  | cons x r ih =>
    intro n
    rw [List.foldl_cons]
    by_cases h : n < x
    · rw [if_pos h]
      obtain ⟨h1,h2,h3⟩ := ih x
      refine ⟨.inr (by rcases h1 with z | z; · rw [z]; exact List.mem_cons_self
                       · exact List.mem_cons_of_mem _ z),by omega,fun m hm => ?_⟩
      rcases List.mem_cons.mp hm with z | z
      · rw [z]; exact h2
      · exact h3 m z
    · rw [if_neg h]
      obtain ⟨h1,h2,h3⟩ := ih n
      refine ⟨by rcases h1 with z | z; · exact .inl z
                 · exact .inr (List.mem_cons_of_mem _ z),h2,fun m hm => ?_⟩
      rcases List.mem_cons.mp hm with z | z
      · rw [z]; omega
      · exact h3 m z
theorem Jso {ns : List Int} {m : Int} (h : maxI ns = some m) : m ∈ ns ∧ ∀ n ∈ ns,n ≤ m := by
  cases ns with
  | nil => cases h
  | cons x r =>
    cases h
    obtain ⟨h1,h2,h3⟩ := Jzh r x
    refine ⟨by rcases h1 with z | z; · rw [z]; exact List.mem_cons_self
               · exact List.mem_cons_of_mem _ z,fun n hn => ?_⟩
    rcases List.mem_cons.mp hn with z | z
    · rw [z]; exact h2
    · exact h3 n z
def Jq9 (S : Store) : List D → Option D
  | [x] => (listOf S x).bind fun ds => (intsOf ds).bind fun ns => (maxI ns).map .int
  | _ => none
theorem Juk {K : PySem.W.Frag} : SemC K (fun xs H Q => ∃ (p : Addr) (ns : List Int),xs = [.ref p] ∧ SqL K H p (ns.map V.int) ∧ ns ≠ [] ∧ ∀ m,m ∈ ns → (∀ n ∈ ns,n ≤ m) → Q (.int m) H) Jq9 := by
  intro Γ μ σ H env S xs ds d hK R rs e Q q
  unfold Jq9 at e
  split at e
  · obtain ⟨es,e1,e⟩ := bind_some e
    obtain ⟨ns,e2,e⟩ := bind_some e
    obtain ⟨m,e3,e4⟩ := map_some e
    subst e4
    obtain ⟨v,rfl,r⟩ := rs.one
    obtain ⟨a,xs,rfl,ha,rx⟩ := VR.list R r e1
    have := Jdg e2
    subst this
    have := rx.Jnv
    subst this
    refine ⟨a,ns,rfl,SqL.of ha,(fun z => by rw [z] at e3; cases e3),fun m' h1 h2 => ?_⟩
    obtain ⟨g1,g2⟩ := Jso e3
    have : m' = m := Int.le_antisymm (g2 _ h1) (h2 _ g1)
    rw [this]
    exact q _ H (Same.refl H) (.int _)
  · cases e
def SemN (K : PySem.W.Frag) (r : List V → Hp → VK → Prop) (g : Store → List D → Option (List D)) : Prop := ∀ (Γ : Fr) (μ : Mu) (σ : St) (H : Hp) (env : Env) (S : Store) (xs : List V) (ds es : List D),Γ.K = K → Rep Γ μ σ H env S → VRs Γ μ H xs ds → g S ds = some es →
  ∀ Q : VK,(∀ l ys,H l = none → VRs Γ μ H ys es → Q (.ref l) (upd H l (.lst ys))) → r xs H Q
def Jtb (g : Store → List D → Option (List D)) (a : ASem) : ESem := fun env S => (a env S).bind fun p => (g p.2 p.1).map fun es => (.lst true es,p.2)
theorem Jxb {K : PySem.W.Frag} {r : List V → Hp → VK → Prop} {g : Store → List D → Option (List D)} {f : ASem} (hs : SemN K r g) {σ : St} {H : Hp} {Q : VK} (h : wpE K (Jtb g f) σ H Q) : tCB r (wpA K f) σ H Q := by
  obtain ⟨Γ,μ,env,S,d,S',hK,R,e,q⟩ := h
  obtain ⟨⟨x,S1⟩,e1,e⟩ := bind_some e
  obtain ⟨z,e4,e⟩ := map_some e
  cases e
  refine ⟨Γ,μ,env,S,x,S1,hK,R,e1,fun v1 μ1 H1 x1 R1 r1 => ?_⟩
  refine hs Γ μ1 σ H1 env S1 v1 x _ hK R1 r1 e4 Q fun l ys hl ry => ?_
  obtain ⟨R4,x4⟩ := R1.grow (Jbt hl (.lst ys))
  exact q _ μ1 _ (x1.trans x4) R4 (.lst (R1.ok hl true) (R1.dead hl) Ja6 (ry.ext x4))
section
variable {X : Cx} {x : Str} {p pos : Pos} {e : Expr} {es : List Expr} {T : String} {f : ASem} {r : List V → Hp → VK → Prop} {g : Store → List D → Option (List D)}
theorem Jyu (hc : Jdp X (.type T) r) (hsm : SemN X.K r g) (hg : Gl X x) (hm : X.mg x = none) (hv : bootBuiltins x = some (.type T)) (ha : JA X (e :: es) f) (hn : x ≠ "__name__" := by decide) (hdb : (x == ("__debug__" : Str)) = false := by decide)
    (he : starEach (e :: es) X.env = (false,eval e X.env) :: starEach es X.env := by rfl) (hpl : (backTo pos (starEach es X.env)).any (·.1) = false := by rfl) : JE X (.Call (.Name x p) (e :: es) [] pos) (Jtb g f) :=
  ⟨PE.imp (Jgw hc hg hm hv ha.pa hn hdb he hpl) fun _ _ _ h => Jxb hsm h⟩
end
def nList (S : Store) : List D → Option (List D)
  | [x] => Jav S x
  | _ => none
theorem Juo {K : PySem.W.Frag} : SemN K (Jxu K) nList := by
  intro Γ μ σ H env S xs ds es hK R rs e Q q
  unfold nList at e
  split at e
  · obtain ⟨v,rfl,r⟩ := rs.one
    obtain ⟨a,ys,rfl,hq,ry⟩ := VR.seq hK R r e
    exact ⟨a,ys,rfl,hq,fun l hl => q l ys hl ry⟩
  · cases e
end VS
end
section
set_option Elab.async false
set_option maxRecDepth 10000
set_option linter.all false
namespace VS
open PySem PySem.Spec L2
mutual
def toP : D → Option PyData
  | .non => some .none
  | .bl b => some (.bool b)
  | .int i => some (.int i)
  | .str x => some (.str x)
  | .tup ds => (toPL ds).map .tuple
  | .lst _ ds => (toPL ds).map .list
  | .emp => some (.dict [])
  | .ref _ => none
  | .scr _ => none
  | .ty _ => none
def toPL : List D → Option (List PyData)
  | [] => some []
  | d :: r => (toP d).bind fun x => (toPL r).bind fun xs => some (x :: xs)
end
mutual
theorem VR.tr {Γ : Fr} {μ : Mu} {H : Hp} : ∀ {v : V} {d : D} {p : PyData},VR Γ μ H v d → toP d = some p → Tr (fun _ => True) H v p
  | _,_,_,.non,h => by rw [toP] at h; cases h; exact .non
  | _,_,_,.bl b,h => by rw [toP] at h; cases h; exact .bl b
  | _,_,_,.int i,h => by rw [toP] at h; cases h; exact .int i
  | _,_,_,.str x,h => by rw [toP] at h; cases h; exact .str x
  | _,_,_,.ty _,h => by rw [toP] at h; cases h
  | _,_,_,.tup hb t,h => by
    rw [toP] at h
    obtain ⟨ps,e1,e2⟩ := map_some h
    subst e2
    exact .tup trivial hb (VRs.tr t e1)
  | _,_,_,.lst _ _ hb t,h => by
    rw [toP] at h
    obtain ⟨ps,e1,e2⟩ := map_some h
    subst e2
    exact .lst trivial hb (VRs.tr t e1)
  | _,_,_,.ref _ _,h => by rw [toP] at h; cases h
  | _,_,_,.scrK _,h => by rw [toP] at h; cases h
  | _,_,_,.scrR _ _,h => by rw [toP] at h; cases h
  | _,_,_,.emp _ hb,h => by rw [toP] at h; cases h; exact .dct trivial hb
theorem VRs.tr {Γ : Fr} {μ : Mu} {H : Hp} : ∀ {v : List V} {d : List D} {p : List PyData},VRs Γ μ H v d → toPL d = some p → Jbp (fun _ => True) H v p
  | _,_,_,.nil,h => by rw [toPL] at h; cases h; exact .nil
  | _,_,_,.cons r t,h => by
    rw [toPL] at h
    obtain ⟨x,e1,h⟩ := bind_some h
    obtain ⟨xs,e2,h⟩ := bind_some h
    cases h
    exact .cons (VR.tr r e1) (VRs.tr t e2)
end
def seeP (S : Store) (d : D) : Option PyData := (den 0 S d).bind toP
theorem VR.see {Γ : Fr} {μ : Mu} {σ : St} {H : Hp} {env : Env} {S : Store} {v : V} {d : D} {p : PyData} (R : Rep Γ μ σ H env S) (r : VR Γ μ H v d) (h : seeP S d = some p) : Tr (fun _ => True) H v p := by
  obtain ⟨e,e1,e2⟩ := bind_some h
  have r1 : VR ⟨Γ.K,fun _ => none,fun _ => True,[]⟩ [] H v e := VR.den (Γ' := ⟨Γ.K,fun _ => none,fun _ => True,[]⟩) R rfl (fun i ds a _ hs => ⟨hs,fun z => ⟨Jfm,⟨fun _ => rfl,.inl trivial⟩⟩⟩) (fun m a _ _ => ⟨fun _ => rfl,.inl trivial⟩) (fun a o _ _ => Jfm) r e1
  exact r1.tr e2
def eqP (neg : Bool) (S : Store) (x y : D) : Option D := (seeP S x).bind fun p => (seeP S y).bind fun q => if (SeqAt.shaped p && SeqAt.shaped q) = true then some (.bl (neg ^^ PyData.eqv p q)) else none
def oEq (neg : Bool) (S : Store) : D → D → Option D
  | .int i,.int j => some (.bl (neg ^^ decide (i = j)))
  | x,y => eqP neg S x y
def rEqD : R2 := fun x y H Q => ∃ (N N' : Addr → Prop) (d e : PyData),Tr N H x d ∧ Tr N' H y e ∧ SeqAt.shaped d = true ∧ SeqAt.shaped e = true ∧ Q (.bl (PyData.eqv d e)) H
def rNeD : R2 := fun x y H Q => ∃ (N N' : Addr → Prop) (d e : PyData),Tr N H x d ∧ Tr N' H y e ∧ SeqAt.shaped d = true ∧ SeqAt.shaped e = true ∧ Q (.bl (!PyData.eqv d e)) H
def rEq2 : R2 := fun x y H Q => rEq x y H Q ∨ rEqD x y H Q
def rNe2 : R2 := fun x y H Q => rNe x y H Q ∨ rNeD x y H Q
theorem Jfl {X : Cx} {k : Nat} (hr : Room k X.A) : OpR X (compareOp .Eq) rEq2 := OpR.or JC6 (JAz hr)
theorem Jhp {X : Cx} {k : Nat} (hr : Room k X.A) : OpR X (compareOp .NotEq) rNe2 := OpR.or JC5 (JAt hr)
theorem Jfk {K : PySem.W.Frag} : Sem2 K rEq2 (oEq false) := by
  intro Γ μ σ H env S x y dx dy d hK R rx ry e Q q
  unfold oEq at e
  split at e
  · rename_i i j
    cases e; cases rx; cases ry
    refine .inl ⟨rfl,?_⟩
    have : decide (V.int i = V.int j) = decide (i = j) := by simp
    rw [this]
    exact q _ H (Same.refl H) (by simpa using VR.bl (decide (i = j)))
  · unfold eqP at e
    obtain ⟨p,e1,e⟩ := bind_some e
    obtain ⟨p2,e2,e⟩ := bind_some e
    by_cases h : (SeqAt.shaped p && SeqAt.shaped p2) = true
    · rw [if_pos h] at e
      cases e
      rw [Bool.and_eq_true] at h
      exact .inr ⟨_,_,p,p2,rx.see R e1,ry.see R e2,h.1,h.2,q _ H (Same.refl H) (by simpa using VR.bl (PyData.eqv p p2))⟩
    · rw [if_neg h] at e; cases e
theorem Jhm {K : PySem.W.Frag} : Sem2 K rNe2 (oEq true) := by
  intro Γ μ σ H env S x y dx dy d hK R rx ry e Q q
  unfold oEq at e
  split at e
  · rename_i i j
    cases e; cases rx; cases ry
    refine .inl ⟨rfl,?_⟩
    have : decide (V.int i = V.int j) = decide (i = j) := by simp
    rw [this]
    exact q _ H (Same.refl H) (by simpa using VR.bl (!decide (i = j)))
  · unfold eqP at e
    obtain ⟨p,e1,e⟩ := bind_some e
    obtain ⟨p2,e2,e⟩ := bind_some e
    by_cases h : (SeqAt.shaped p && SeqAt.shaped p2) = true
    · rw [if_pos h] at e
      cases e
      rw [Bool.and_eq_true] at h
      exact .inr ⟨_,_,p,p2,rx.see R e1,ry.see R e2,h.1,h.2,q _ H (Same.refl H) (by simpa using VR.bl (!PyData.eqv p p2))⟩
    · rw [if_neg h] at e; cases e
def oIsN (neg : Bool) (S : Store) : D → D → Option D
  | .non,.non => some (.bl (!neg))
  | .ref i,.non => ((S[i]?).join).map fun _ => .bl neg
  | .bl a,.bl b => some (.bl (neg ^^ decide (a = b)))
  | .int _,.non => some (.bl neg)
  | .bl _,.non => some (.bl neg)
  | .str _,.non => some (.bl neg)
  | .tup _,.non => some (.bl neg)
  | .lst _ _,.non => some (.bl neg)
  | _,_ => none
def rIs2 : R2 := fun x y H Q => (y = .non ∧ Q (.bl (decide (x = .non))) H) ∨ ∃ (c d : Bool),x = .bl c ∧ y = .bl d ∧ Q (.bl (decide (c = d))) H
theorem Jpz {X : Cx} : OpR X (compareOp .Is) rIs2 := OpR.or JAx Ju1
theorem Jpo {K : PySem.W.Frag} : Sem2 K rIs2 (oIsN false) := by
  intro Γ μ σ H env S x y dx dy d hK R rx ry e Q q
  unfold oIsN at e
  split at e
  · cases e; cases rx; cases ry; exact .inl ⟨rfl,by simpa using q _ H (Same.refl H) (.bl true)⟩
  · obtain ⟨ds,e1,e2⟩ := map_some e
    subst e2
    obtain ⟨a,xs,rfl,_⟩ := VR.refI R rx (join_some e1)
    cases ry; exact .inl ⟨rfl,by simpa using q _ H (Same.refl H) (.bl false)⟩
  · rename_i a b
    cases e; cases rx; cases ry; exact .inr ⟨a,b,rfl,rfl,by simpa using q _ H (Same.refl H) (by simpa using VR.bl (decide (a = b)))⟩
  · cases e; cases rx; cases ry; exact .inl ⟨rfl,by simpa using q _ H (Same.refl H) (.bl false)⟩
  · cases e; cases rx; cases ry; exact .inl ⟨rfl,by simpa using q _ H (Same.refl H) (.bl false)⟩
  · cases e; cases rx; cases ry; exact .inl ⟨rfl,by simpa using q _ H (Same.refl H) (.bl false)⟩
  · cases e; cases rx; cases ry; exact .inl ⟨rfl,by simpa using q _ H (Same.refl H) (.bl false)⟩
  · cases e; cases rx; cases ry; exact .inl ⟨rfl,by simpa using q _ H (Same.refl H) (.bl false)⟩
  · cases e
def oTab (D : List (PyData × PyData)) (_ : Store) : VS.D → Option VS.D
  | .int i => some (.bl (lookup (.int i) D).isSome)
  | _ => none
def Jp1 (D : List (PyData × PyData)) (_ : Store) : VS.D → Option VS.D
  | .int i => match lookup (.int i) D with | some (.int j) => some (.int j) | _ => none
  | _ => none
section
variable {X : Cx} {a : Expr} {fa : ESem} {x : Str} {p pos : Pos} {dM : Addr} {D : List (PyData × PyData)}
theorem Jzs {K : PySem.W.Frag} {σ : St} {H : Hp} {Q : VK} (h : wpE K (eUn (oTab D) fa) σ H Q) : tOp (fun x y H Q => ∃ (i : Int),x = .int i ∧ y = .ref dM ∧ Q (.bl (lookup (.int i) D).isSome) H) (wpE K fa) (tC (.ref dM)) σ H Q := by
  obtain ⟨Γ,μ,env,S,d,S',hK,R,e,q⟩ := h
  obtain ⟨⟨y,S1⟩,e1,e⟩ := bind_some e
  obtain ⟨z,e3,e⟩ := map_some e
  cases e
  refine ⟨Γ,μ,env,S,y,S1,hK,R,e1,fun v1 μ1 H1 x1 R1 r1 => ?_⟩
  dsimp only at e3
  unfold oTab at e3
  split at e3
  · cases e3; cases r1; exact ⟨_,rfl,rfl,q _ μ1 H1 x1 R1 (.bl _)⟩
  · cases e3
theorem Jvk (hT : ∀ h,X.K.In h → PyProof.Rows.IntTab X.prog X.w h dM D) (ha : JE X a fa) (hg : Gl X x) (hm : X.mg x = some (.ref dM)) (hk : behindInMarks .In (.Name x p) = false := by with_unfolding_all rfl) (hd : (x == ("__debug__" : Str)) = false := by decide) : JE X (.Compare a [.In] [.Name x p] pos) (eUn (oTab D) fa) :=
  ⟨PE.imp (Jsd (Ju2 hT) ha.pe (Jsc (v := .ref dM) hg hm rfl hd) hk) fun _ _ _ h => Jzs h⟩
theorem Jvj (hT : ∀ h,X.K.In h → PyProof.Rows.IntTab X.prog X.w h dM D) (hb : JE X a fa) (hg : Gl X x) (hm : X.mg x = some (.ref dM)) (hs : Jmz a) (hd : (x == ("__debug__" : Str)) = false := by decide)
    (hgo : ∀ r,letTemporaryGo (.Name x p) (.ref dM) r = pure () := by intro _; with_unfolding_all rfl) : JE X (.Subscript (.Name x p) a pos) (eUn (Jp1 D) fa) :=
  ⟨PE.imp (Ju0 hT (Jsc (v := .ref dM) hg hm rfl hd) hb.pe hs hgo) fun σ H Q h => by
    obtain ⟨Γ,μ,env,S,d,S',hK,R,e,q⟩ := h
    obtain ⟨⟨y,S1⟩,e1,e⟩ := bind_some e
    obtain ⟨z,e3,e⟩ := map_some e
    cases e
    refine ⟨Γ,μ,env,S,y,S1,hK,R,e1,fun v1 μ1 H1 x1 R1 r1 => ?_⟩
    dsimp only at e3
    unfold Jp1 at e3
    split at e3
    · split at e3
      · rename_i hl
        cases e3; cases r1; exact ⟨_,_,rfl,rfl,hl,q _ μ1 H1 x1 R1 (.int _)⟩
      · cases e3
    · cases e3⟩
end
def isT (T : String) (d : PyData) : Bool := match T with
  | "str" => (match d with | .str _ => true | _ => false)
  | T => isTy T d
theorem Jyr {K : PySem.W.Frag} (d : PyData) : PySem.W.kitOne K (.type (tyName d)) (.type "str") = some (isT "str" d) := by
  cases d with
  | none => exact Jb8 (a := "NoneType") (r := false) (by decide +kernel)
  | bool _ => exact Jb8 (a := "bool") (r := false) (by decide +kernel)
  | int _ => exact Jb8 (a := "int") (r := false) (by decide +kernel)
  | str _ => exact Jb8 (a := "str") (r := true) (by decide +kernel)
  | list _ => exact Jb8 (a := "list") (r := false) (by decide +kernel)
  | tuple _ => exact Jb8 (a := "tuple") (r := false) (by decide +kernel)
  | dict _ => exact Jb8 (a := "dict") (r := false) (by decide +kernel)
def bIsT (S : Store) : List D → Option D
  | [x,.ty "int"] => (seeP S x).map fun p => .bl (isT "int" p)
  | [x,.ty "bool"] => (seeP S x).map fun p => .bl (isT "bool" p)
  | [x,.ty "tuple"] => (seeP S x).map fun p => .bl (isT "tuple" p)
  | [x,.ty "list"] => (seeP S x).map fun p => .bl (isT "list" p)
  | [x,.ty "str"] => (seeP S x).map fun p => .bl (isT "str" p)
  | [x,.tup [.ty "tuple",.ty "list"]] => (seeP S x).bind fun p => if noDict p = true then some (.bl (isSeq p)) else none
  | _ => none
def rIsT (K : PySem.W.Frag) : List V → Hp → VK → Prop := fun xs H Q => ∃ (x : V) (T : String) (t : Value) (b : Bool),xs = [x,.ty T] ∧ TyOf K H x t ∧ PySem.W.kitOne K t (.type T) = some b ∧ Q (.bl b) H
def JCt : List V → Hp → VK → Prop := fun xs H Q => ∃ (N : Addr → Prop) (x : V) (d : PyData) (p : Addr),xs = [x,.ref p] ∧ H p = some (.tup [.ty "tuple",.ty "list"]) ∧ Tr N H x d ∧ noDict d = true ∧ Q (.bl (isSeq d)) H
def Jxv (K : PySem.W.Frag) : List V → Hp → VK → Prop := fun xs H Q => rIsT K xs H Q ∨ JCt xs H Q
theorem Jdb {X : Cx} : Jdp X (.builtin "isinstance") (Jxv X.K) := Jdp.or Jpc Jmu
theorem Jd2 {K : PySem.W.Frag} : SemC K (Jxv K) bIsT := by
  intro Γ μ σ H env S xs ds d hK R rs e Q q
  have go : ∀ (T : String) (x : D),(∀ p : PyData,PySem.W.kitOne K (.type (tyName p)) (.type T) = some (isT T p)) → ds = [x,.ty T] → ((seeP S x).map fun p => D.bl (isT T p)) = some d → Jxv K xs H Q := fun T x hk hd e' => by
    subst hd
    obtain ⟨p,e1,e2⟩ := map_some e'
    subst e2
    obtain ⟨v,u,rfl,r1,r2⟩ := rs.two
    cases r2
    exact .inl ⟨v,T,_,_,rfl,(r1.see R e1).ty,hk p,q _ H (Same.refl H) (.bl _)⟩
  unfold bIsT at e
  split at e
  · exact go "int" _ Jys rfl e
  · exact go "bool" _ Jve rfl e
  · exact go "tuple" _ kit_tuple rfl e
  · exact go "list" _ Jvd rfl e
  · exact go "str" _ Jyr rfl e
  · obtain ⟨p,e1,e⟩ := bind_some e
    by_cases h : noDict p = true
    · rw [if_pos h] at e
      cases e
      obtain ⟨v,u,rfl,r1,r2⟩ := rs.two
      cases r2 with
      | @tup a ys _ ha ry =>
        cases ry with
        | cons q1 t1 =>
          cases t1 with
          | cons q2 t2 =>
            cases t2; cases q1; cases q2
            exact .inr ⟨_,v,p,a,rfl,ha,r1.see R e1,h,q _ H (Same.refl H) (.bl _)⟩
    · rw [if_neg h] at e; cases e
  · cases e
def Jea (ns : List Int) : List Int := (SetP.once ns).mergeSort fun a b => decide (a ≤ b)
theorem Jlb {ns ms : List Int} (h : ms.Perm (SetP.once ns)) (s : ms.Pairwise (· ≤ ·)) : ms = Jea ns := by
  have h2 : (Jea ns).Perm (SetP.once ns) := List.mergeSort_perm _ _
  have s2 : (Jea ns).Pairwise (· ≤ ·) := by
    have := List.pairwise_mergeSort (le := fun a b : Int => decide (a ≤ b)) (by intro a b c h1 h2; simp at *; omega) (by intro a b; simp; omega) (SetP.once ns)
    exact this.imp fun h => by simpa using h
  exact List.Perm.eq_of_pairwise (fun a b _ _ h1 h2 => Int.le_antisymm h1 h2) s s2 (h.trans h2.symm)
def Jhi (a : ESem) : ESem := fun env S => (a env S).bind fun p => (listOf p.2 p.1).bind fun ds => (intsOf ds).bind fun ns => if ns.length < 1000 ∧ (SetP.once ns).length < 64 then some (.lst true ((Jea ns).map .int),p.2) else none
theorem Jiu {X : Cx} {a : Expr} {f : ESem} {p p2 pos pos2 : Pos} (hc : X.calm = true) (ha : JE X a f) (hg : Gl X "sorted") (hm : X.mg "sorted" = none) (hg2 : Gl X "set") (hm2 : X.mg "set" = none) 
    (he : starEach [a] X.env = [(false,eval a X.env)] := by rfl) (he2 : starEach [.Call (.Name "set" p2) [a] [] pos2] X.env = [(false,eval (.Call (.Name "set" p2) [a] [] pos2) X.env)] := by rfl) : JE X (.Call (.Name "sorted" p) [.Call (.Name "set" p2) [a] [] pos2] [] pos) (Jhi f) :=
  ⟨PE.imp (Jpx (Jk4 hc) hg hm Jtp (Jl8 (Jgw (Jv7 hc) hg2 hm2 JBv (Jl8 ha.pe Jpy he) (he := he) (hpl := rfl)) Jpy he2) (he := he2) (hpl := rfl)) fun σ H Q h => by
    obtain ⟨Γ,μ,env,S,d,S',hK,R,e,q⟩ := h
    obtain ⟨⟨y,S1⟩,e1,e⟩ := bind_some e
    obtain ⟨ds,e2,e⟩ := bind_some e
    obtain ⟨ns,e3,e⟩ := bind_some e
    by_cases hl : ns.length < 1000 ∧ (SetP.once ns).length < 64
    · rw [if_pos hl] at e
      cases e
      refine ⟨Γ,μ,env,S,y,_,hK,R,e1,fun v1 μ1 H1 x1 R1 r1 => ?_⟩
      obtain ⟨b,xs,rfl,hb,rb⟩ := VR.list R1 r1 e2
      have := Jdg e3
      subst this
      have := rb.Jnv
      subst this
      refine ⟨b,ns,rfl,SqL.of hb,hl.1,fun s hs => ?_⟩
      obtain ⟨R2,x2⟩ := R1.grow (Jbt hs (setO X.prog X.w s (SetP.once ns)))
      refine ⟨s,_,rfl,Ja6,hl.2,fun l ms hl' hp hsrt => ?_⟩
      have := Jlb hp hsrt
      subst this
      obtain ⟨R3,x3⟩ := R2.grow (Jbt hl' (.lst ((Jea ns).map V.int)))
      exact q _ μ1 _ (x1.trans (x2.trans x3)) R3 (.lst (R2.ok hl' true) (R2.dead hl') Ja6 (VRs.ints _))
    · rw [if_neg hl] at e; cases e⟩
def Jdx (a : ASem) : ESem := fun env S => (a env S).bind fun p => match p.1 with
  | [.int j] => if r62 j ∧ j.toNat ≤ 1000 then some (.lst true (upD 0 j.toNat),p.2) else none
  | [.int i,.int j] => if r62 i ∧ r62 j ∧ (j - i).toNat ≤ 1000 then some (.lst true (upD i (j - i).toNat),p.2) else none
  | _ => none
theorem Jxf {Γ : Fr} {μ : Mu} {H : Hp} (lo : Int) (n : Nat) : VRs Γ μ H ((upTo lo n).map V.int) (upD lo n) := by
  have : upD lo n = (upTo lo n).map D.int := by unfold upD L2.upTo; rw [List.map_map]; rfl
  rw [this]; exact VRs.ints _
def Jpw : List V → Hp → VK → Prop := fun xs H Q => (∃ (n : Int),xs = [.int n] ∧ ∀ p,H p = none → Q (.ref p) (upd H p (.rng 0 n))) ∨ ∃ (a b : Int),xs = [.int a,.int b] ∧ ∀ p,H p = none → Q (.ref p) (upd H p (.rng a b))
theorem Joc {X : Cx} : Jdp X (.type "range") Jpw := Jdp.or Jpb Jpa
theorem Jm1 {K : PySem.W.Frag} {f : ASem} {σ : St} {H : Hp} {Q : VK} (h : ∃ Γ μ env S ds S',Γ.K = K ∧ Rep Γ μ σ H env S ∧ f env S = some (ds,S') ∧ ∃ lo n,((∃ j,ds = [.int j] ∧ r62 j ∧ j.toNat ≤ 1000 ∧ lo = 0 ∧ n = j.toNat) ∨ ∃ i j,ds = [.int i,.int j] ∧ r62 i ∧ r62 j ∧ (j - i).toNat ≤ 1000 ∧ lo = i ∧ n = (j - i).toNat) ∧
      ∀ μ' H',Ext μ H μ' H' → Rep Γ μ' σ H' env S' → ∀ l,H' l = none → Q (.ref l) (upd H' l (.lst ((upTo lo n).map V.int)))) :
    tCB (fun xs H Q => ∃ (r : Addr) (lo hi : Int),xs = [.ref r] ∧ H r = some (.rng lo hi) ∧ -(2 ^ 62) ≤ lo ∧ lo < 2 ^ 62 ∧ -(2 ^ 62) ≤ hi ∧ hi < 2 ^ 62 ∧ (hi - lo).toNat ≤ 1000 ∧ ∀ l,H l = none → Q (.ref l) (upd H l (.lst ((upTo lo (hi - lo).toNat).map V.int)))) (Jzx (tCB Jpw (wpA K f)) tNil) σ H Q := by
  obtain ⟨Γ,μ,env,S,ds,S',hK,R,e1,lo,n,hc,q⟩ := h
  refine ⟨Γ,μ,env,S,ds,S',hK,R,e1,fun vs μ1 H1 x1 R1 r1 => ?_⟩
  rcases hc with ⟨j,rfl,h1,h2,rfl,rfl⟩ | ⟨i,j,rfl,h1,h2,h3,rfl,rfl⟩
  · obtain ⟨v,rfl,r⟩ := r1.one
    cases r
    refine .inl ⟨j,rfl,fun p hp => ⟨p,0,j,rfl,Ja6,by decide,by decide,h1.1,h1.2,by simpa using h2,fun l hl => ?_⟩⟩
    obtain ⟨R2,x2⟩ := R1.grow (Jbt hp (.rng 0 j))
    have := q μ1 _ (x1.trans x2) R2 l hl
    simpa using this
  · obtain ⟨v,u,rfl,r,r'⟩ := r1.two
    cases r
    cases r'
    refine .inr ⟨lo,j,rfl,fun p hp => ⟨p,lo,j,rfl,Ja6,h1.1,h1.2,h2.1,h2.2,h3,fun l hl => ?_⟩⟩
    obtain ⟨R2,x2⟩ := R1.grow (Jbt hp (.rng lo j))
    exact q μ1 _ (x1.trans x2) R2 l hl
section
variable {X : Cx} {a : Expr} {as : List Expr} {f : ASem} {p p2 pos pos2 : Pos}
theorem Jfy (hc : X.calm = true) (ha : JA X (a :: as) f) (hg : Gl X "list") (hm : X.mg "list" = none) (hg2 : Gl X "range") (hm2 : X.mg "range" = none)
    (he : starEach (a :: as) X.env = (false,eval a X.env) :: starEach as X.env := by rfl) (hpl : (backTo pos2 (starEach as X.env)).any (·.1) = false := by rfl) (he2 : starEach [.Call (.Name "range" p2) (a :: as) [] pos2] X.env = [(false,eval (.Call (.Name "range" p2) (a :: as) [] pos2) X.env)] := by rfl) :
    JE X (.Call (.Name "list" p) [.Call (.Name "range" p2) (a :: as) [] pos2] [] pos) (Jdx f) :=
  ⟨PE.imp (Jgw (Jk5 hc) hg hm Ji4 (Jl8 (Jgw Joc hg2 hm2 Jv9 ha.pa (he := he) (hpl := hpl)) Jpy he2) (he := he2) (hpl := rfl)) fun σ H Q h => by
    obtain ⟨Γ,μ,env,S,d,S',hK,R,e,q⟩ := h
    obtain ⟨⟨ds,S1⟩,e1,e⟩ := bind_some e
    refine Jm1 ⟨Γ,μ,env,S,ds,S1,hK,R,e1,?_⟩
    have fin : ∀ lo n,d = .lst true (upD lo n) → S1 = S' → ∀ μ' H',Ext μ H μ' H' → Rep Γ μ' σ H' env S1 → ∀ l,H' l = none → Q (.ref l) (upd H' l (.lst ((upTo lo n).map V.int))) := fun lo n hd hs μ' H' x' R' l hl => by
      subst hd hs
      obtain ⟨R2,x2⟩ := R'.grow (Jbt hl (.lst ((upTo lo n).map V.int)))
      exact q _ μ' _ (x'.trans x2) R2 (.lst (R'.ok hl true) (R'.dead hl) Ja6 (Jxf lo n))
    dsimp only at e
    split at e
    · rename_i j
      by_cases hj : r62 j ∧ j.toNat ≤ 1000
      · rw [if_pos hj] at e; cases e
        exact ⟨0,_,.inl ⟨j,rfl,hj.1,hj.2,rfl,rfl⟩,fin _ _ rfl rfl⟩
      · rw [if_neg hj] at e; cases e
    · rename_i i j
      by_cases hj : r62 i ∧ r62 j ∧ (j - i).toNat ≤ 1000
      · rw [if_pos hj] at e; cases e
        exact ⟨i,_,.inr ⟨i,j,rfl,hj.1,hj.2.1,hj.2.2,rfl,rfl⟩,fin _ _ rfl rfl⟩
      · rw [if_neg hj] at e; cases e
    · cases e⟩
end
end VS
end
section
set_option Elab.async false
set_option maxRecDepth 10000
set_option linter.all false
namespace VS
open PySem PySem.Spec L2
def Jpn (K : PySem.W.Frag) : Sp := fun vs H Q _ => ∃ (l : Addr) (ns : List Int),vs = [.ref l] ∧ Only H ∧ ns.length ≤ 63 ∧ SqL K H l (ns.map V.int) ∧ ∀ H',Q (.bl true) H'
theorem JBa {K : PySem.W.Frag} {sem : PSem} (h : ∀ ns : List Int,ns.length ≤ 63 → sem [.scr ns] = some (.bl true)) : ∀ vs H Q E,Jpn K vs H Q E → spP K sem 1 vs H Q E := by
  intro vs H Q E ⟨l,ns,e,hO,hl,hq,q⟩
  subst e
  refine ⟨fun _ => False,[.scr ns],.bl true,rfl,.cons ?_ .nil,h ns hl,fun v H' sm rv => ?_⟩
  · rcases hq with hq | hq
    · rcases hq with hq | ⟨o,hq⟩
      · rcases hO l with z | ⟨o,xs,z⟩
        · rw [z] at hq; cases hq
        · rw [z] at hq; cases hq
      · exact .scrR Jfm hq
    · exact .scrK fun H' => .inr hq
  · cases rv; exact q H'
theorem Js7 {P : Program} {w : World} {K : PySem.W.Frag} {mg : Str → Option Value} {base : Heap} {k : Nat} {f : Addr} {fd : FuncData} {ps : List Str} {n : Nat} (hn : n = ps.length) : FnOk P w K mg base CX0 k f fd ps (spP K (fun _ => none) n) :=
  ⟨fun vs H Q E ⟨_,_,_,hl,_⟩ => hl.trans hn,fun A outer s H args us vs Q E hr e0 hb hv ⟨_,_,_,_,_,e,_⟩ => by cases e⟩
end VS
end
section
set_option Elab.async false
set_option maxRecDepth 10000
set_option linter.all false
namespace VS
open PySem L2
theorem Jbu (a b : SSem) (env : VS.Env) (S : Store) : VS.sSeq a b env S = (a env S).bind fun p => match p.1 with | .nx => b p.2.1 p.2.2 | f => some (f,p.2.1,p.2.2) := rfl
theorem Jaz (i : Nat) (a : ESem) (env : VS.Env) (S : Store) : VS.sSet i a env S = (a env S).bind fun p => some (.nx,env.set i (some p.1),p.2) := rfl
theorem Ja2 (a : ESem) (env : VS.Env) (S : Store) : VS.sRet a env S = (a env S).bind fun p => some (.ret p.1,env,p.2) := rfl
theorem Jb7 (c : TSem) (a b : SSem) (env : VS.Env) (S : Store) : VS.sIf c a b env S = (c env S).bind fun p => if p.1 = true then a env p.2 else b env p.2 := rfl
theorem Jhu (a : ESem) (g : GSem) (env : VS.Env) (S : Store) : VS.sAsg a g env S = (a env S).bind fun p => (g p.1 env).bind fun e => some (.nx,e,p.2) := rfl
theorem Jht (a : ESem) (env : VS.Env) (S : Store) : VS.sExp a env S = (a env S).bind fun p => some (.nx,env,p.2) := rfl
theorem Jbi (env : VS.Env) (S : Store) : VS.sNil  env S = some (.nx,env,S) := rfl
theorem Jr0 (env : VS.Env) (S : Store) : VS.Jr1  env S = none := rfl
theorem Jep (it : ISem) (g : GSem) (b : SSem) (env : VS.Env) (S : Store) : VS.sFor it g b env S = (it env S).bind fun p => loop p.1.2 g b p.1.1 env p.2 := rfl
theorem Jnc (v o i : ESem) (env : VS.Env) (S : Store) : VS.Jpt v o i env S = (v env S).bind fun p => (o env p.2).bind fun q => (i env q.2).bind fun r => match q.1,r.1 with
  | .ref j,.int k => (match r.2[j]? with
    | some (some ds) => (ixN ds.length k).bind fun n => some (.nx,env,r.2.set j (some (ds.set n p.1)))
    | _ => none)
  | _,_ => none := rfl
theorem Jaf (i : Nat) (env : VS.Env) (S : Store) : VS.eVar i env S = (env[i]?.join).map fun d => (d,S) := rfl
theorem Jbj (d : D) (env : VS.Env) (S : Store) : VS.eC d env S = some (d,S) := rfl
theorem Jap (g : Store → D → D → Option D) (a b : ESem) (env : VS.Env) (S : Store) : VS.eOp g a b env S = (a env S).bind fun p => (b env p.2).bind fun q => (g q.2 p.1 q.1).map fun d => (d,q.2) := rfl
theorem Jlr (g : Store → D → Option D) (a : ESem) (env : VS.Env) (S : Store) : VS.eUn g a env S = (a env S).bind fun p => (g p.2 p.1).map fun d => (d,p.2) := rfl
theorem Jai (env : VS.Env) (S : Store) : VS.aNil  env S = some ([],S) := rfl
theorem Jad (a : ESem) (r : ASem) (env : VS.Env) (S : Store) : VS.Jac a r env S = (a env S).bind fun p => (r env p.2).bind fun q => some (p.1 :: q.1,q.2) := rfl
theorem Jb5 (g : Store → List D → Option D) (a : ASem) (env : VS.Env) (S : Store) : VS.eCB g a env S = (a env S).bind fun p => (g p.2 p.1).map fun d => (d,p.2) := rfl
theorem Jg9 (a b : ESem) (env : VS.Env) (S : Store) : VS.eAnd a b env S = (a env S).bind fun p => match p.1 with | .bl true => b env p.2 | .bl false => some (.bl false,p.2) | _ => none := rfl
theorem Jkq (a : ESem) (env : VS.Env) (S : Store) : VS.eNot a env S = (a env S).bind fun p => match p.1 with | .bl c => some (.bl (!c),p.2) | _ => none := rfl
theorem Jtc (g g' : Store → D → D → Option D) (a b c : ESem) (env : VS.Env) (S : Store) : VS.Jqh g g' a b c env S = (a env S).bind fun p => (b env p.2).bind fun q => (g q.2 p.1 q.1).bind fun z => match z with
  | .bl true => (c env q.2).bind fun r => (g' r.2 q.1 r.1).map fun d => (d,r.2)
  | .bl false => some (.bl false,q.2)
  | _ => none := rfl
theorem Jas (a : ESem) (env : VS.Env) (S : Store) : VS.tVal a env S = (a env S).bind fun p => match p.1 with | .bl c => some (c,p.2) | _ => none := rfl
theorem Jjx (a b : TSem) (env : VS.Env) (S : Store) : VS.tAnd a b env S = (a env S).bind fun p => if p.1 = true then b env p.2 else some (false,p.2) := rfl
theorem Jer (a b : TSem) (env : VS.Env) (S : Store) : VS.tOr a b env S = (a env S).bind fun p => if p.1 = true then some (true,p.2) else b env p.2 := rfl
theorem Jim (a : TSem) (env : VS.Env) (S : Store) : VS.tNot a env S = (a env S).bind fun p => some (!p.1,p.2) := rfl
theorem Jew (env : VS.Env) (S : Store) : VS.Jhw  env S = some (none,S) := rfl
theorem Jev (a : ESem) (env : VS.Env) (S : Store) : VS.Jhv a env S = (a env S).bind fun p => match p.1 with | .int i => some (some i,p.2) | _ => none := rfl
theorem Jig (g : Store → D → Option Int → Option Int → Option D) (a : ESem) (l h : OSem) (env : VS.Env) (S : Store) : VS.eSl g a l h env S = (a env S).bind fun p => (l env p.2).bind fun q => (h env q.2).bind fun r => (g r.2 p.1 q.1 r.1).map fun d => (d,r.2) := rfl
theorem Jat (a : ASem) (env : VS.Env) (S : Store) : VS.eFrz a env S = (a env S).bind fun p => some (.lst true p.1,p.2) := rfl
theorem Ji3 (a : ASem) (env : VS.Env) (S : Store) : VS.eSto a env S = (a env S).bind fun p => some (.ref p.2.length,p.2 ++ [some p.1]) := rfl
theorem Jb1 (a : ASem) (env : VS.Env) (S : Store) : VS.eTup a env S = (a env S).bind fun p => some (.tup p.1,p.2) := rfl
theorem Jdq (sem : PSem) (a : ASem) (env : VS.Env) (S : Store) : VS.Jbc sem a env S = (a env S).bind fun p => (denL 0 p.2 p.1).bind fun ds => (sem (ageL ds)).bind fun r => if (Jax p.1 || newD r) = true then some (r,p.2) else none := rfl
theorem Ja7 (sem : MSem) (a : ASem) (env : VS.Env) (S : Store) : VS.Jby sem a env S = (a env S).bind fun p => match p.1 with
  | .ref i :: rest => (match p.2[i]? with
    | some (some cs) => (intsOf cs).bind fun ns => (denL 0 (p.2.set i none) rest).bind fun ds => (sem ns (ageL ds)).bind fun r => if (Jax rest || newD r.1) = true then some (r.1,p.2.set i (some (r.2.map D.int))) else none
    | _ => none)
  | _ => none := rfl
theorem Js9 (sem : PSem) (a : ASem) (env : VS.Env) (S : Store) : VS.Jn8 sem a env S = (Jbc sem a env S).bind fun p => (thaw p.2.length p.1).bind fun q => some (q.1,p.2 ++ [some q.2]) := rfl
theorem Jta (sem : MSem) (a : ASem) (env : VS.Env) (S : Store) : VS.Jn9 sem a env S = (Jby sem a env S).bind fun p => (thaw p.2.length p.1).bind fun q => some (q.1,p.2 ++ [some q.2]) := rfl
theorem Jhj (g : Store → D → List D → Option (D × Store)) (o : ESem) (a : ASem) (env : VS.Env) (S : Store) : VS.Jjr g o a env S = (o env S).bind fun p => if (listOf p.2 p.1).isSome then (a env p.2).bind fun q => g q.2 p.1 q.1 else none := rfl
theorem Jv4 (g : Store → List D → Option (List D)) (a : ASem) (env : VS.Env) (S : Store) : VS.Jtb g a env S = (a env S).bind fun p => (g p.2 p.1).map fun es => (.lst true es,p.2) := rfl
theorem Jdm (a : ASem) (env : VS.Env) (S : Store) : VS.Jdx a env S = (a env S).bind fun p => match p.1 with
  | [.int j] => if r62 j ∧ j.toNat ≤ 1000 then some (.lst true (upD 0 j.toNat),p.2) else none
  | [.int i,.int j] => if r62 i ∧ r62 j ∧ (j - i).toNat ≤ 1000 then some (.lst true (upD i (j - i).toNat),p.2) else none
  | _ => none := rfl
theorem Jdt (a : ESem) (env : VS.Env) (S : Store) : VS.Jhi a env S = (a env S).bind fun p => (listOf p.2 p.1).bind fun ds => (intsOf ds).bind fun ns => if ns.length < 1000 ∧ (SetP.once ns).length < 64 then some (.lst true ((Jea ns).map .int),p.2) else none := rfl
theorem Jcd (a : ESem) (env : VS.Env) (S : Store) : VS.iSeq a env S = (a env S).bind fun p => (Jav p.2 p.1).map fun ds => ((ds,idOf ds p.1),p.2) := rfl
theorem Js4 (a : ASem) (env : VS.Env) (S : Store) : VS.Jqb a env S = (a env S).bind fun p => match p.1 with
  | [x] => (listOf p.2 x).bind fun xs => some ((Jjp 0 xs,idOf xs x),p.2)
  | _ => none := rfl
theorem Jcr (np n : Nat) (f : SSem) (ds : List D) : VS.runP np n f ds = if ds.length = np then (f (ds.map some ++ List.replicate (n - ds.length) none) []).bind fun p => match p.1 with | .ret d => den 0 p.2.2 d | .nx => some .non | _ => none else none := rfl
theorem Jc8 (np n : Nat) (f : SSem) (ns : List Int) (ds : List D) : VS.runM np n f ns ds = if ds.length + 1 = np then (f (some (.ref 0) :: (ds.map some ++ List.replicate (n - 1 - ds.length) none)) [some (ns.map D.int)]).bind fun p => match p.2.2[0]? with
  | some (some cs) => (intsOf cs).bind fun ms => (match p.1 with | .ret d => (den 1 p.2.2 d).map fun r => (r,ms) | .nx => some (.non,ms) | _ => none)
  | _ => none
  else none := rfl
theorem Jcp (i : Nat) (d : D) (env : VS.Env) : Pat.sem (.nm i) d env = some (env.set i (some d)) := by rw [Pat.sem]
theorem Jes (ps : List Pat) (ds : List D) (env : VS.Env) : Pat.sem (.tp ps) (.tup ds) env = semS ps ds env := by rw [Pat.sem]
theorem Jct (env : VS.Env) : semS [] [] env = some env := by rw [semS]
theorem Jcb (p : Pat) (ps : List Pat) (d : D) (ds : List D) (env : VS.Env) : semS (p :: ps) (d :: ds) env = (Pat.sem p d env).bind fun e => semS ps ds e := by rw [semS]
@[simp] theorem JCb (S : Store) : calm [] S = True := by simp [calm]
@[simp] theorem JCa (i : Nat) (ds : List D) (S : Store) : calm [(i,ds)] S = (S[i]? = some (some ds)) := by simp [calm]
@[simp] theorem Jtv {α : Type} (S : List α) (a : α) : (S ++ [a])[S.length]? = some a := by simp
@[simp] theorem Jrp {α : Type} (S : List α) (a b : α) : (S ++ [a]).set S.length b = S ++ [b] := by simp
theorem Jmk {n k : Nat} (h : k < n) : ixN n (k : Int) = some k := by
  unfold ixN
  rw [if_pos (by omega),if_pos (by omega)]; simp
@[simp] theorem JDq {n : Nat} : ixN (n + 1) 0 = some 0 := Jmk (k := 0) (by omega)
@[simp] theorem JDp {n : Nat} : ixN (n + 2) 1 = some 1 := Jmk (k := 1) (by omega)
@[simp] theorem JDo {n : Nat} : ixN (n + 3) 2 = some 2 := Jmk (k := 2) (by omega)
@[simp] theorem JDn {n : Nat} : ixN (n + 4) 3 = some 3 := Jmk (k := 3) (by omega)
@[simp] theorem JD3 {α : Type} (a : α) (l : List α) : atI (a :: l) 0 = some a := by unfold atI; rw [List.length_cons,JDq]; rfl
@[simp] theorem JD2 {α : Type} (a b : α) (l : List α) : atI (a :: b :: l) 1 = some b := by unfold atI; rw [List.length_cons,List.length_cons,JDp]; rfl
@[simp] theorem JD1 {α : Type} (a b c : α) (l : List α) : atI (a :: b :: c :: l) 2 = some c := by unfold atI; rw [List.length_cons,List.length_cons,List.length_cons,JDo]; rfl
@[simp] theorem JD0 {α : Type} (a b c d : α) (l : List α) : atI (a :: b :: c :: d :: l) 3 = some d := by unfold atI; rw [List.length_cons,List.length_cons,List.length_cons,List.length_cons,JDn]; rfl
theorem Jsp {w : List (Nat × List D)} {g : GSem} {b : SSem} (I : Nat → Env → Store → Prop) (R : D → Store → Prop) {ds : List D} {env : Env} {S : Store} (h0 : I 0 env S) (hc : ∀ i env S,I i env S → calm w S)
    (step : ∀ i d env S,ds[i]? = some d → I i env S → ∃ env1,g d env = some env1 ∧ ((∃ env2 S2,(b env1 S = some (.nx,env2,S2) ∨ b env1 S = some (.cnt,env2,S2)) ∧ I (i + 1) env2 S2) ∨ ∃ r env2 S2,b env1 S = some (.ret r,env2,S2) ∧ R r S2)) :
    (∃ env' S',loop w g b ds env S = some (.nx,env',S') ∧ I ds.length env' S') ∨ ∃ r env' S',loop w g b ds env S = some (.ret r,env',S') ∧ R r S' := by
  have key : ∀ (l : List D) (i : Nat) (env : Env) (S : Store),ds.drop i = l → i ≤ ds.length → I i env S → (∃ env' S',loop w g b l env S = some (.nx,env',S') ∧ I ds.length env' S') ∨ ∃ r env' S',loop w g b l env S = some (.ret r,env',S') ∧ R r S' := by
    intro l
    induction l with
    | nil =>
      intro i env S hd hi h
      have : i = ds.length := by
        have := congrArg List.length hd
        simp at this; omega
      subst this
      exact .inl ⟨env,S,by unfold loop; rw [if_pos (hc _ _ _ h)],h⟩
    | cons d r ih =>
      intro i env S hd hi h
      have hlt : i < ds.length := by
        have := congrArg List.length hd
        simp at this; omega
      have e : ds[i]? = some d := by
        rw [List.drop_eq_getElem_cons hlt] at hd
        rw [List.getElem?_eq_getElem hlt,(List.cons.inj hd).1]
      have hr : ds.drop (i + 1) = r := by
        rw [List.drop_eq_getElem_cons hlt] at hd
        exact (List.cons.inj hd).2
      obtain ⟨env1,e1,q⟩ := step i d env S e h
      rcases q with ⟨env2,S2,e2,q⟩ | ⟨v,env2,S2,e2,q⟩
      · have e3 : loop w g b (d :: r) env S = loop w g b r env2 S2 := by
          rcases e2 with e2 | e2 <;> (rw [loop,if_pos (hc _ _ _ h),e1]; show (b env1 S).bind _ = _; rw [e2]; rfl)
        rw [e3]
        exact ih (i + 1) env2 S2 hr hlt q
      · refine .inr ⟨v,env2,S2,?_,q⟩
        rw [loop,if_pos (hc _ _ _ h),e1]
        show (b env1 S).bind _ = _
        rw [e2]; rfl
  exact key ds 0 env S (by simp) (Nat.zero_le _) h0
theorem Jej {w : List (Nat × List D)} {g : GSem} {b : SSem} (I : Nat → Env → Store → Prop) {ds : List D} {env : Env} {S : Store} (h0 : I 0 env S) (hc : ∀ i env S,I i env S → calm w S)
    (step : ∀ i d env S,ds[i]? = some d → I i env S → ∃ env1,g d env = some env1 ∧ ∃ env2 S2,b env1 S = some (.nx,env2,S2) ∧ I (i + 1) env2 S2) :
    ∃ env' S',loop w g b ds env S = some (.nx,env',S') ∧ I ds.length env' S' := by
  rcases Jsp I (fun _ _ => False) h0 hc (fun i d env S e h => by
    obtain ⟨env1,e1,env2,S2,e2,q⟩ := step i d env S e h
    exact ⟨env1,e1,.inl ⟨env2,S2,.inl e2,q⟩⟩) with h | ⟨_,_,_,_,h⟩
  · exact h
  · exact h.elim
theorem comp_map {w : List (Nat × List D)} {e0 : Env} {g : GSem} {t : TSem} {f : ESem} {S : Store} (hc : calm w S) (p : D → Bool) (F : D → D) : ∀ (ds ys : List D),ys.length + ds.length ≤ 1000000 →
    (∀ d ∈ ds,∃ e1,g d e0 = some e1 ∧ t e1 S = some (p d,S) ∧ (p d = true → f e1 S = some (F d,S))) → Jf0 w e0 g t f ds ys S = some (ys ++ (ds.filter p).map F,S)
  | [],ys,hl,_ => by unfold Jf0; rw [if_pos ⟨hc,by simpa using hl⟩]; simp
  | d :: r,ys,hl,h => by
    rw [List.length_cons] at hl
    obtain ⟨e1,h1,h2,h3⟩ := h d List.mem_cons_self
    unfold Jf0
    rw [if_pos ⟨hc,by omega⟩,h1]
    show (t e1 S).bind _ = _
    rw [h2]
    show (if p d = true then _ else _) = _
    have hr : ∀ x ∈ r,_ := fun x hx => h x (List.mem_cons_of_mem _ hx)
    by_cases hp : p d = true
    · rw [if_pos hp,h3 hp]
      show Jf0 w e0 g t f r (ys ++ [F d]) S = _
      rw [comp_map hc p F r (ys ++ [F d]) (by rw [List.length_append]; simp; omega) hr,List.filter_cons_of_pos hp]
      simp
    · rw [if_neg hp,List.filter_cons_of_neg hp]
      exact comp_map hc p F r ys (by omega) hr
theorem Jjv {w : List (Nat × List D)} {e0 : Env} {g : GSem} {f : ESem} {S : Store} (hc : calm w S) (F : D → D) (ds : List D) (hl : ds.length ≤ 1000000) (h : ∀ d ∈ ds,∃ e1,g d e0 = some e1 ∧ f e1 S = some (F d,S)) : Jf0 w e0 g tYes f ds [] S = some (ds.map F,S) := by
  have := comp_map (t := tYes) hc (fun _ => true) F ds [] (by simpa using hl) (fun d hd => let ⟨e1,h1,h2⟩ := h d hd; ⟨e1,h1,rfl,fun _ => h2⟩)
  rw [this,List.nil_append,List.filter_eq_self.mpr (by simp)]
theorem Jmt {w : List (Nat × List D)} {e0 : Env} {g : GSem} {f : ESem} (I : Nat → List D → Store → Prop) {ds : List D} {S : Store} (h0 : I 0 [] S) (hc : ∀ i ys S,I i ys S → calm w S ∧ ys.length ≤ 1000000)
    (step : ∀ i d ys S,ds[i]? = some d → I i ys S → ∃ e1 y S2,g d e0 = some e1 ∧ f e1 S = some (y,S2) ∧ I (i + 1) (ys ++ [y]) S2) : ∃ ys S',Jf0 w e0 g tYes f ds [] S = some (ys,S') ∧ I ds.length ys S' := by
  have key : ∀ (l : List D) (i : Nat) (ys : List D) (S : Store),ds.drop i = l → i ≤ ds.length → I i ys S → ∃ ys' S',Jf0 w e0 g tYes f l ys S = some (ys',S') ∧ I ds.length ys' S' := by
    intro l
    induction l with
    | nil =>
      intro i ys S hd hi h
      have : i = ds.length := by
        have := congrArg List.length hd
        simp at this; omega
      subst this
      exact ⟨ys,S,by unfold Jf0; rw [if_pos (hc _ _ _ h)],h⟩
    | cons d r ih =>
      intro i ys S hd hi h
      have hlt : i < ds.length := by
        have := congrArg List.length hd
        simp at this; omega
      have e : ds[i]? = some d := by
        rw [List.drop_eq_getElem_cons hlt] at hd
        rw [List.getElem?_eq_getElem hlt,(List.cons.inj hd).1]
      have hr : ds.drop (i + 1) = r := by
        rw [List.drop_eq_getElem_cons hlt] at hd
        exact (List.cons.inj hd).2
      obtain ⟨e1,y,S2,h1,h2,h3⟩ := step i d ys S e h
      obtain ⟨ys',S',h4,h5⟩ := ih (i + 1) (ys ++ [y]) S2 hr hlt h3
      refine ⟨ys',S',?_,h5⟩
      unfold Jf0
      rw [if_pos (hc _ _ _ h),h1]
      simp only [Option.bind_some,tYes,if_true,h2]
      exact h4
  exact key ds 0 [] S (by simp) (Nat.zero_le _) h0
theorem Jh2 {α : Type} {w : List (Nat × List D)} {e0 : VS.Env} {g : GSem} {t : TSem} {f : ESem} {S : Store} (hc : calm w S) (enc : α → D) (p : α → Bool) (F : α → D) : ∀ (l : List α) (ys : List D),ys.length + l.length ≤ 1000000 →
    (∀ a ∈ l,∃ e1,g (enc a) e0 = some e1 ∧ t e1 S = some (p a,S) ∧ (p a = true → f e1 S = some (F a,S))) → Jf0 w e0 g t f (l.map enc) ys S = some (ys ++ (l.filter p).map F,S)
  | [],ys,hl,_ => by rw [List.map_nil,Jf0,if_pos ⟨hc,by simpa using hl⟩]; simp
  | d :: r,ys,hl,h => by
    rw [List.length_cons] at hl
    obtain ⟨e1,h1,h2,h3⟩ := h d List.mem_cons_self
    have hr : ∀ x ∈ r,_ := fun x hx => h x (List.mem_cons_of_mem _ hx)
    rw [List.map_cons,Jf0,if_pos ⟨hc,by omega⟩,h1]
    simp only [Option.bind_some,h2]
    by_cases hp : p d = true
    · simp only [hp,if_true,h3 hp,Option.bind_some]
      rw [Jh2 hc enc p F r (ys ++ [F d]) (by rw [List.length_append]; simp; omega) hr,List.filter_cons_of_pos hp]
      simp
    · rw [if_neg hp,List.filter_cons_of_neg hp]
      exact Jh2 hc enc p F r ys (by omega) hr
theorem Jh1 {α : Type} {w : List (Nat × List D)} {e0 : VS.Env} {g : GSem} {f : ESem} {S : Store} (hc : calm w S) (enc F : α → D) (l : List α) (hl : l.length ≤ 1000000) (h : ∀ a ∈ l,∃ e1,g (enc a) e0 = some e1 ∧ f e1 S = some (F a,S)) : Jf0 w e0 g VS.tYes f (l.map enc) [] S = some (l.map F,S) := by
  have := Jh2 (t := VS.tYes) hc enc (fun _ => true) F l [] (by simpa using hl) (fun d hd => let ⟨e1,h1,h2⟩ := h d hd; ⟨e1,h1,rfl,fun _ => h2⟩)
  rw [this,List.nil_append,List.filter_eq_self.mpr (by simp)]
theorem Jik (lo : Int) (n : Nat) : (upD lo n).length = n := by unfold upD; rw [List.length_map,List.length_range]
theorem Jil {lo : Int} {n i : Nat} {d : D} (h : (upD lo n)[i]? = some d) : i < n ∧ d = .int (lo + i) := by
  have hi : i < n := by rw [← Jik lo n]; exact (List.getElem?_eq_some_iff.mp h).1
  unfold upD at h
  rw [List.getElem?_map,List.getElem?_range hi] at h
  cases h
  exact ⟨hi,rfl⟩
theorem Jr5 {j : Int} (h0 : -1000000 ≤ j) (h1 : j ≤ 1000000) : r62 j := ⟨Int.le_trans (by decide) h0,Int.lt_of_le_of_lt h1 (by decide)⟩
theorem Jjb {f : ASem} {env : VS.Env} {S S' : Store} {j : Int} (n : Nat) (hf : f env S = some ([.int j],S')) (hn : j.toNat = n) (h0 : -1000000 ≤ j) (h1 : j ≤ 1000000) : Jc5 f env S = some ((upD 0 n,[]),S') := by
  unfold Jc5
  rw [hf,Option.bind_some]
  show (if r62 j then some ((upD 0 j.toNat,([] : List (Nat × List D))),S') else none) = _
  rw [if_pos (Jr5 h0 h1),hn]
theorem Jks {S : Store} {ds : List D} (h : Jd9 ds = true) : denL 0 S ds = some ds := Jbb 0 S (Jbg h)
theorem Jf5 {α : Type} {F : α → D} (l : List α) (h : ∀ a ∈ l,Jdl (F a) = true) : Jd9 (l.map F) = true := by
  induction l with
  | nil => rfl
  | cons a r ih => rw [List.map_cons,Jd9,h a List.mem_cons_self,ih fun b hb => h b (List.mem_cons_of_mem _ hb)]; rfl
theorem Jpk {α : Type} {F : α → D} {G : α → PyData} (l : List α) (h : ∀ a ∈ l,toP (F a) = some (G a)) : toPL (l.map F) = some (l.map G) := by
  induction l with
  | nil => rw [List.map_nil,toPL]; rfl
  | cons a r ih => rw [List.map_cons,toPL,h a List.mem_cons_self,ih fun b hb => h b (List.mem_cons_of_mem _ hb)]; rfl
abbrev St2 := Int × Int
def encS (p : St2) : D := .tup [.int p.1,.int p.2]
def encB (b : List St2) : D := .tup (b.map encS)
def encH (m : Bool) (n : Nat) (bs : List (List St2)) : D := .tup [.int n,.lst m (bs.map encB)]
@[simp] theorem Jd5 (p : St2) : Jdl (encS p) = true := rfl
@[simp] theorem Jf4 (b : List St2) : Jdl (encB b) = true := by rw [encB,Jdl]; exact Jf5 b fun p _ => Jd5 p
theorem Jcf (bs : List (List St2)) : Jd9 (bs.map encB) = true := Jf5 bs fun b _ => Jf4 b
def pS (p : St2) : PyData := .tuple [.int p.1,.int p.2]
def pB (b : List St2) : PyData := .tuple (b.map pS)
theorem Jpi (p : St2) : toP (encS p) = some (pS p) := by simp [encS,toP,toPL,pS]
theorem Jpj (b : List St2) : toP (encB b) = some (pB b) := by rw [encB,toP,Jpk b fun p _ => Jpi p]; rfl
theorem Jqp (bs : List (List St2)) : toPL (bs.map encB) = some (bs.map pB) := Jpk bs fun b _ => Jpj b
@[simp] theorem JCe (S : Store) (x : D) : bIsT S [x,.ty "int"] = (seeP S x).map fun p => .bl (isT "int" p) := rfl
@[simp] theorem Jwt : isT "int" (.none) = false := rfl
@[simp] theorem Jww (b : Bool) : isT "int" (.bool b) = true := rfl
@[simp] theorem Jy2 (i : Int) : isT "int" (.int i) = true := rfl
@[simp] theorem Jy1 (s : Str) : isT "int" (.str s) = false := rfl
@[simp] theorem Jwu (l : List PyData) : isT "int" (.list l) = false := rfl
@[simp] theorem Jvu (l : List PyData) : isT "int" (.tuple l) = false := rfl
@[simp] theorem Jwv (l : List (PyData × PyData)) : isT "int" (.dict l) = false := rfl
@[simp] theorem JBy (S : Store) (x : D) : bIsT S [x,.ty "bool"] = (seeP S x).map fun p => .bl (isT "bool" p) := rfl
@[simp] theorem Jvv : isT "bool" (.none) = false := rfl
@[simp] theorem Jvy (b : Bool) : isT "bool" (.bool b) = true := rfl
@[simp] theorem Jwy (i : Int) : isT "bool" (.int i) = false := rfl
@[simp] theorem Jwx (s : Str) : isT "bool" (.str s) = false := rfl
@[simp] theorem Jvw (l : List PyData) : isT "bool" (.list l) = false := rfl
@[simp] theorem Jt5 (l : List PyData) : isT "bool" (.tuple l) = false := rfl
@[simp] theorem Jvx (l : List (PyData × PyData)) : isT "bool" (.dict l) = false := rfl
@[simp] theorem Jzp (S : Store) (x : D) : bIsT S [x,.ty "tuple"] = (seeP S x).map fun p => .bl (isT "tuple" p) := rfl
@[simp] theorem Jt0 : isT "tuple" (.none) = false := rfl
@[simp] theorem Jt3 (b : Bool) : isT "tuple" (.bool b) = false := rfl
@[simp] theorem Jvo (i : Int) : isT "tuple" (.int i) = false := rfl
@[simp] theorem Jvn (s : Str) : isT "tuple" (.str s) = false := rfl
@[simp] theorem Jt1 (l : List PyData) : isT "tuple" (.list l) = false := rfl
@[simp] theorem Js2 (l : List PyData) : isT "tuple" (.tuple l) = true := rfl
@[simp] theorem Jt2 (l : List (PyData × PyData)) : isT "tuple" (.dict l) = false := rfl
@[simp] theorem JBx (S : Store) (x : D) : bIsT S [x,.ty "list"] = (seeP S x).map fun p => .bl (isT "list" p) := rfl
@[simp] theorem Jvq : isT "list" (.none) = false := rfl
@[simp] theorem Jvt (b : Bool) : isT "list" (.bool b) = false := rfl
@[simp] theorem Jws (i : Int) : isT "list" (.int i) = false := rfl
@[simp] theorem Jwr (s : Str) : isT "list" (.str s) = false := rfl
@[simp] theorem Jvr (l : List PyData) : isT "list" (.list l) = true := rfl
@[simp] theorem Jt4 (l : List PyData) : isT "list" (.tuple l) = false := rfl
@[simp] theorem Jvs (l : List (PyData × PyData)) : isT "list" (.dict l) = false := rfl
@[simp] theorem JCc (S : Store) (x : D) : bIsT S [x,.ty "str"] = (seeP S x).map fun p => .bl (isT "str" p) := rfl
@[simp] theorem Jwn : isT "str" (.none) = false := rfl
@[simp] theorem Jwq (b : Bool) : isT "str" (.bool b) = false := rfl
@[simp] theorem Jy0 (i : Int) : isT "str" (.int i) = false := rfl
@[simp] theorem Jyz (s : Str) : isT "str" (.str s) = true := rfl
@[simp] theorem Jwo (l : List PyData) : isT "str" (.list l) = false := rfl
@[simp] theorem Jvp (l : List PyData) : isT "str" (.tuple l) = false := rfl
@[simp] theorem Jwp (l : List (PyData × PyData)) : isT "str" (.dict l) = false := rfl
@[simp] theorem JCd (S : Store) (x : D) : bIsT S [x,.tup [.ty "tuple",.ty "list"]] = (seeP S x).bind fun p => if noDict p = true then some (.bl (isSeq p)) else none := rfl
@[simp] theorem JB3 (S : Store) (i : Int) : seeP S (.int i) = some (.int i) := by simp [seeP,den,toP]
@[simp] theorem Jrx (S : Store) (b : Bool) : seeP S (.bl b) = some (.bool b) := by simp [seeP,den,toP]
@[simp] theorem Jjt (S : Store) : seeP S .non = some .none := by simp [seeP,den,toP]
@[simp] theorem JB2 (S : Store) (x : Str) : seeP S (.str x) = some (.str x) := by simp [seeP,den,toP]
@[simp] theorem Jrv (S : Store) (p : St2) : seeP S (encS p) = some (pS p) := by rw [seeP,Jet 0 S (Jfh (Jd5 p))]; exact Jpi p
@[simp] theorem Jrw (S : Store) (b : List St2) : seeP S (encB b) = some (pB b) := by rw [seeP,Jet 0 S (Jfh (Jf4 b))]; exact Jpj b
theorem Jio (S : Store) (m : Bool) (bs : List (List St2)) : seeP S (.lst m (bs.map encB)) = some (.list (bs.map pB)) := by
  rw [seeP,den,Jks (Jcf bs)]
  show toP (.lst m (bs.map encB)) = _
  rw [toP,Jqp]; rfl
theorem Jj0 (S : Store) (m : Bool) (n : Nat) (bs : List (List St2)) : seeP S (encH m n bs) = some (.tuple [.int n,.list (bs.map pB)]) := by
  have h := Jio S m bs
  rw [seeP,den,Jks (Jcf bs)] at h
  have h' : toP (.lst m (bs.map encB)) = some (.list (bs.map pB)) := h
  simp [seeP,encH,den,denL,Jks (Jcf bs),toP,toPL]
  rw [toP] at h'
  obtain ⟨ps,e1,e2⟩ := map_some h'
  rw [e1]
  cases e2
  rfl
@[simp] theorem Jhh (ns : List Int) : Jd9 (ns.map D.int) = true := Jf5 ns fun _ _ => rfl
@[simp] theorem Jtd (k : Nat) (S : Store) (ns : List Int) : denL k S (ns.map D.int) = some (ns.map D.int) := Jbb k S (Jbg (Jhh ns))
@[simp] theorem Joj (ns : List Int) : ageL (ns.map D.int) = ns.map D.int := Jg8 (Jhh ns)
@[simp] theorem Jir (ns : List Int) : Jax (ns.map D.int) = true := Jbg (Jhh ns)
@[simp] theorem JA5 (ns : List Int) : newL (ns.map D.int) = true := Jic (Jhh ns)
theorem Jh4 (lo : Int) (n : Nat) : upD lo n = ((List.range n).map fun (i : Nat) => lo + (i : Int)).map D.int := by unfold upD; rw [List.map_map]; rfl
@[simp] theorem JB9 (k : Nat) (S : Store) (lo : Int) (n : Nat) : denL k S (upD lo n) = some (upD lo n) := by rw [Jh4]; exact Jtd ..
@[simp] theorem JAc (lo : Int) (n : Nat) : Jax (upD lo n) = true := by rw [Jh4]; exact Jir _
@[simp] theorem Jq6 (k : Nat) (S : Store) (bs : List (List St2)) : denL k S (bs.map encB) = some (bs.map encB) := Jbb k S (Jbg (Jcf bs))
@[simp] theorem Jra (bs : List (List St2)) : ageL (bs.map encB) = bs.map encB := Jg8 (Jcf bs)
@[simp] theorem Jj1 (bs : List (List St2)) : Jax (bs.map encB) = true := Jbg (Jcf bs)
@[simp] theorem Jzo (bs : List (List St2)) : newL (bs.map encB) = true := Jic (Jcf bs)
@[simp] theorem Jzi (bs : List (List St2)) : Jd9 (bs.map encB) = true := Jcf bs
@[simp] theorem JB6 (k : Nat) (S : Store) (p : St2) : den k S (encS p) = some (encS p) := Jet k S (Jfh (Jd5 p))
@[simp] theorem JB8 (k : Nat) (S : Store) (b : List St2) : den k S (encB b) = some (encB b) := Jet k S (Jfh (Jf4 b))
@[simp] theorem JCf (p : St2) : age (encS p) = encS p := Jmo (Jd5 p)
@[simp] theorem JCh (b : List St2) : age (encB b) = encB b := Jmo (Jf4 b)
@[simp] theorem JAa (p : St2) : Ja4 (encS p) = true := Jfh (Jd5 p)
@[simp] theorem Jnf (b : List St2) : Ja4 (encB b) = true := Jfh (Jf4 b)
@[simp] theorem JB4 (p : St2) : newD (encS p) = true := Jmn (Jd5 p)
@[simp] theorem JB5 (b : List St2) : newD (encB b) = true := Jmn (Jf4 b)
@[simp] theorem JB7 (k : Nat) (S : Store) (m : Bool) (n : Nat) (bs : List (List St2)) : den k S (encH m n bs) = some (encH m n bs) := by simp [encH,den,denL,Jbb k S (Jbg (Jcf bs))]
@[simp] theorem JCg (m : Bool) (n : Nat) (bs : List (List St2)) : age (encH m n bs) = encH false n bs := by simp [encH,age,ageL,Jg8 (Jcf bs)]
@[simp] theorem JAb (m : Bool) (n : Nat) (bs : List (List St2)) : Ja4 (encH m n bs) = true := by simp [encH,Ja4,Jax,Jbg (Jcf bs)]
structure Good (n : Nat) (bs : List (List St2)) : Prop where
  ways : n = 1 ∨ n = 2 ∨ n = 3
  most : bs.length ≤ [0,20,10,6].getD n 0
  box : ∀ b ∈ bs,b.length = n ∧ ∀ p ∈ b,p.1 < p.2 ∧ -1000000000 ≤ p.1 ∧ p.2 ≤ 1000000000
theorem Good.n3 {n : Nat} {bs : List (List St2)} (g : Good n bs) : 1 ≤ n ∧ n ≤ 3 := by have := g.ways; omega
theorem Good.few {n : Nat} {bs : List (List St2)} (g : Good n bs) : bs.length ≤ 20 := by
  have := g.most
  rcases g.ways with h | h | h <;> subst h <;> simp at this <;> omega
theorem Good.erase {n : Nat} {bs : List (List St2)} (g : Good n bs) (i : Nat) : Good n (bs.eraseIdx i) :=
  ⟨g.ways,Nat.le_trans (List.length_eraseIdx_le ..) g.most,fun b hb => g.box b (List.mem_of_mem_eraseIdx hb)⟩
theorem JBz {α : Type} {l : List α} {i : Int} {j : Nat} (e : i = (j : Int)) (h : j < l.length) : atI l i = some l[j] := by
  subst e
  exact Jh3 (List.getElem?_eq_getElem h)
theorem Ji6 {α β : Type} {F : α → β} {l : List α} {i : Int} (h0 : 0 ≤ i) (h1 : i < l.length) : ∃ a,atI (l.map F) i = some (F a) ∧ l[i.toNat]? = some a := by
  have hj : i.toNat < l.length := by omega
  refine ⟨l[i.toNat],?_,List.getElem?_eq_getElem hj⟩
  rw [JBz (j := i.toNat) (by omega) (by simpa using hj)]; simp
theorem Jpu {n d : Nat} {a : Int} (h0 : 0 ≤ a) (h1 : a ≤ n) : HT.sIx n d (some a) = a.toNat := by
  show (if a < 0 then (a + (n : Int)).toNat else min a.toNat n) = a.toNat
  rw [if_neg (by omega)]
  omega
theorem JBs {xs : List D} {a : Int} (h0 : 0 ≤ a) (h1 : a ≤ xs.length) : cut xs none (some a) = xs.take a.toNat := by
  unfold cut
  rw [Jpu h0 h1]
  simp [HT.sIx]
theorem Jms {xs : List D} {a : Int} (h0 : 0 ≤ a) (h1 : a ≤ xs.length) : cut xs (some a) none = xs.drop a.toNat := by
  unfold cut
  rw [Jpu h0 h1]
  simp only [HT.sIx]
  rw [List.take_of_length_le]
  simp
def lev : Nat → PyData → Bool
  | _,.none => true
  | _,.bool _ => true
  | _,.int _ => true
  | k + 1,.list xs => xs.all (lev k)
  | k + 1,.tuple xs => xs.all (lev k)
  | _,_ => false
theorem Jo6 {k : Nat} (ih : ∀ d,lev k d = true → PyData.canLay0 d = true ∧ d.depth ≤ k) : ∀ xs : List PyData,xs.all (lev k) = true → PyData.canLayAll0 xs = true ∧ PyData.depthAll xs ≤ k
  | [],_ => ⟨by rw [PyData.canLayAll0],by rw [PyData.depthAll]; omega⟩
  | x :: xs,h => by
    rw [List.all_cons,Bool.and_eq_true] at h
    obtain ⟨h1,h2⟩ := ih x h.1
    obtain ⟨h3,h4⟩ := Jo6 ih xs h.2
    exact ⟨by rw [PyData.canLayAll0,h1,h3]; rfl,by rw [PyData.depthAll]; omega⟩
theorem Jp8 : ∀ (k : Nat) (d : PyData),lev k d = true → PyData.canLay0 d = true ∧ d.depth ≤ k
  | k,.none,_ => ⟨by rw [PyData.canLay0],by rw [PyData.depth]; omega⟩
  | k,.bool _,_ => ⟨by rw [PyData.canLay0],by rw [PyData.depth]; omega⟩
  | k,.int _,_ => ⟨by rw [PyData.canLay0],by rw [PyData.depth]; omega⟩
  | 0,.list _,h => by simp [lev] at h
  | 0,.tuple _,h => by simp [lev] at h
  | k,.str _,h => by cases k <;> simp [lev] at h
  | k,.dict _,h => by cases k <;> simp [lev] at h
  | k + 1,.list xs,h => by
    rw [lev] at h
    obtain ⟨h1,h2⟩ := Jo6 (Jp8 k) xs h
    exact ⟨by rw [PyData.canLay0]; exact h1,by rw [PyData.depth]; omega⟩
  | k + 1,.tuple xs,h => by
    rw [lev] at h
    obtain ⟨h1,h2⟩ := Jo6 (Jp8 k) xs h
    exact ⟨by rw [PyData.canLay0]; exact h1,by rw [PyData.depth]; omega⟩
theorem Jlg {k : Nat} {d : PyData} (h : lev k d = true) (hk : k ≤ 60) : SeqAt.shaped d = true := by
  obtain ⟨h1,h2⟩ := Jp8 k d h
  unfold SeqAt.shaped
  rw [h1,Bool.true_and]
  exact decide_eq_true (by omega)
theorem Jif {neg : Bool} {S : Store} {x y : D} {p : PyData} (k : Nat) (hx : seeP S x = some p) (hy : seeP S y = some p) (h : lev k p = true) (hk : k ≤ 60) : eqP neg S x y = some (.bl (neg ^^ true)) := by
  unfold eqP
  rw [hx,hy]
  simp only [Option.bind_some]
  rw [Jlg h hk,SeqAt.eqv_refl _ (Jp8 k p h).1]; rfl
theorem Jmp {neg : Bool} {S : Store} {x : D} {m : Bool} {l : List PyData} (k : Nat) (hx : seeP S x = some (.list l)) (h : lev k (.list l) = true) (hk : k ≤ 60) : eqP neg S x (.lst m []) = some (.bl (neg ^^ l.isEmpty)) := by
  unfold eqP
  have hy : seeP S (.lst m []) = some (.list []) := by simp [seeP,den,denL,toP,toPL]
  rw [hx,hy]
  simp only [Option.bind_some]
  rw [Jlg h hk]
  cases l with
  | nil => rfl
  | cons a r => rfl
theorem JA8 (k : Nat) (p : St2) : lev (k + 1) (pS p) = true := by simp [pS,lev]
theorem JA9 (k : Nat) (b : List St2) : lev (k + 2) (pB b) = true := by
  rw [pB,lev,List.all_map,List.all_eq_true]
  exact fun p _ => JA8 k p
theorem Jj9 (k : Nat) (bs : List (List St2)) : lev (k + 3) (.list (bs.map pB)) = true := by
  rw [lev,List.all_map,List.all_eq_true]
  exact fun p _ => JA9 k p
theorem Ju9 (k : Nat) (n : Nat) (bs : List (List St2)) : lev (k + 4) (.tuple [.int n,.list (bs.map pB)]) = true := by
  rw [lev,List.all_cons,List.all_cons,Jj9 k bs]
  rfl
theorem Jpr {S : Store} {i : Nat} {bs : List (List St2)} (h : S[i]? = some (some (bs.map encB))) : seeP S (.ref i) = some (.list (bs.map pB)) := by
  have := Jio S true bs
  rw [seeP,den,Jq6] at this
  rw [seeP,den,if_neg (by omega),h]
  simp only [Jj1,if_true]
  exact this
theorem Jbq {a b : SSem} {env env1 : VS.Env} {S S1 : Store} (h : a env S = some (.nx,env1,S1)) : sSeq a b env S = b env1 S1 := by rw [Jbu,h]; rfl
theorem Jxp {a b : SSem} {env env1 : VS.Env} {S S1 : Store} {d : D} (h : a env S = some (.ret d,env1,S1)) : sSeq a b env S = some (.ret d,env1,S1) := by rw [Jbu,h]; rfl
theorem Jnx {c : TSem} {a b : SSem} {env : VS.Env} {S S1 : Store} (h : c env S = some (true,S1)) : sIf c a b env S = a env S1 := by rw [Jb7,h]; rfl
theorem Jq4 {c : TSem} {a b : SSem} {env : VS.Env} {S S1 : Store} (h : c env S = some (false,S1)) : sIf c a b env S = b env S1 := by rw [Jb7,h]; rfl
end VS
end
section
set_option Elab.async false
set_option maxRecDepth 10000
set_option linter.all false
namespace VS
open PySem PySem.Spec L2
end VS
namespace HT
open PySem PySem.Spec PyProof PyProof.Rows
end HT
namespace L2
open PySem PySem.Spec PyProof PyProof.Rows
end L2
namespace VS
open PySem PySem.Spec L2
end VS
end
section
set_option Elab.async false
set_option maxRecDepth 100000
set_option linter.all false
namespace HT
open PySem PySem.Spec PyProof.Rows
section
variable {prog : Program} {w : World} {A : Around} {E : Value → Shared → Prop} {s : Shared}
theorem Jom {a : Addr} {o : Obj} {Q : Option Obj → Shared → Prop} (e : s.heap.get? a = some o) (q : Q (some o) s) : wpAny (model prog w) A (loadIfAlive a) Q E s := by
  intro Γ p _
  unfold loadIfAlive
  rw [Sem.wp_loadIfAlive,e]
  exact (Sem.wp_pure ..).mpr q
abbrev Jky (h : Heap) (z TI TO T : Addr) (c : Bool) : Prop := h.get? z = some { cls := .type "zip",dict := none,data := .fields #[rawInt T,.bool c,.bool false,.ref TI,.ref TO],slots := #[] }
variable {z TI TO i1 i2 T : Addr} {fp1 fp2 : List Addr} {n1 n2 k : Nat} {P1 P2 : Nat → Value → Prop} {S1 S2 : Nat → Heap → Prop} {c : Bool}
theorem Jrd {Q : Bool → Shared → Prop} (hZ : Jky s.heap z TI TO T c) (hT : ∃ o,s.heap.get? T = some o) (q : ∀ h',Jky h' z TI TO T true → Heap.SameBut z s.heap h' → Q false { s with heap := h' }) :
    wpAny (model prog w) A (Builtin.SmallTypes.ownedTupleIsFree (.ref z)) Q E s := by
  obtain ⟨o,hT⟩ := hT
  unfold Builtin.SmallTypes.ownedTupleIsFree
  refine wpAny_bind (wpAny_field hZ rfl (x := rawInt T) rfl ?_)
  show wpAny _ _ (loadIfAlive (Int.toNat (T : Int)) >>= _) _ _ _
  rw [Int.toNat_natCast]
  refine wpAny_bind (Jom hT ?_)
  simp only [Option.isNone_some,Bool.false_eq_true,if_false]
  refine wpAny_bind (wpAny_field hZ rfl (x := .bool c) rfl ?_)
  cases c with
  | false =>
    rw [if_pos (by decide)]
    refine wpAny_bind (wpAny_setField_rec hZ (by simp) fun g z' m => ?_)
    exact wpAny_pure (q g z' m)
  | true =>
    rw [if_neg (by decide)]
    exact wpAny_pure (q s.heap hZ (Heap.SameBut.refl ..))
theorem zipU {Q : Value → Shared → Prop} (D1 : Draws prog w A i1 fp1 n1 P1 S1) (D2 : Draws prog w A i2 fp2 n2 P2 S2) (D : Apart z TI TO i1 i2 fp1 fp2) (hZ : Jky s.heap z TI TO T c) (hI : IsPair s.heap TI (.ref i1) (.ref i2)) (hT : ∃ o,s.heap.get? T = some o)
    (s1 : S1 k s.heap) (s2 : S2 k s.heap) (k1 : k < n1) (k2 : k < n2)
    (q : ∀ x y h' tk,P1 k x → P2 k y → Jky h' z TI TO T true → S1 (k + 1) h' → S2 (k + 1) h' → IsPair h' s.heap.objs.size x y → h'.objs.size = s.heap.objs.size + 1 →
      (∀ c o,c ≠ z → c ≠ i1 → c ≠ i2 → s.heap.get? c = some o → h'.get? c = some o) → Q (.ref s.heap.objs.size) { s with heap := h',toks := tk }) :
    wpAny (model prog w) A (Builtin.«zip.__next__» ⟨[.ref z],[]⟩) (fun fin s' => ∃ v,fin = .done (.ret v) ∧ Q v s') E s := by
  obtain ⟨hp,g,d,tk0,os⟩ := s
  refine (show wpAny _ _ (field (.ref z) 2 >>= _) _ _ _ from wpAny_bind (wpAny_field hZ rfl (x := .bool false) rfl ?_))
  refine (show wpAny _ _ (field (.ref z) 3 >>= _) _ _ _ from wpAny_bind (wpAny_field hZ rfl (x := .ref TI) rfl (wpAny_bind (wpAny_seqItems hI rfl ?_))))
  refine (show wpAny _ _ (Builtin.SmallTypes.ownedTupleIsFree (.ref z) >>= _) _ _ _ from wpAny_bind (Jrd hZ hT fun g1 z1 m1 => ?_))
  replace m1 : Heap.SameBut z hp g1 := m1
  simp only [Bool.false_eq_true,if_false]
  have t1 : S1 k g1 := D1.frame _ _ _ s1 fun c hc o e => m1.extBut _ _ (D.b1 c hc).1 e
  have u1 : S2 k g1 := D2.frame _ _ _ s2 fun c hc o e => m1.extBut _ _ (D.b2 c hc).1 e
  refine wpAny_bind ?_
  simp only [List.forIn_toArray,List.forIn_cons,List.forIn_nil]
  refine wpAny_bind (wpAny_bind (wpAny_holding (show wpAny _ _ (Builtin.SmallTypes.nextOf (.ref i1) >>= _) _ _ _ from wpAny_bind (D1.item k ⟨g1,g,d,tk0,os⟩ _ _ k1 t1 fun x g2 tk1 px t2 m2 => wpAny_pure ?_))))
  replace m2 : Heap.SameBut i1 g1 g2 := m2
  have u2 : S2 k g2 := D2.frame _ _ _ u1 fun c hc o e => m2.extBut _ _ (D.b2 c hc).2.2 e
  refine wpAny_pure ?_
  refine wpAny_bind (wpAny_bind (wpAny_holding (show wpAny _ _ (Builtin.SmallTypes.nextOf (.ref i2) >>= _) _ _ _ from wpAny_bind (D2.item k ⟨g2,g,d,tk1,os⟩ _ _ k2 u2 fun y g3 tk2 py u3 m3 => wpAny_pure ?_))))
  replace m3 : Heap.SameBut i2 g2 g3 := m3
  refine wpAny_pure (wpAny_pure ?_)
  refine wpAny_bind (wpAny_newTuple ?_ (by simp [sizeLine]))
  have sz : g3.objs.size = hp.objs.size := by rw [m3.1,m2.1,m1.1]
  refine wpAny_pure ⟨_,rfl,?_⟩
  show Q (.ref g3.objs.size) _
  have z3 : Jky g3 z TI TO T true := m3.extBut _ _ (Ne.symm D.c2.1) (m2.extBut _ _ (Ne.symm D.c1.1) z1)
  have q3 := q x y (g3.push { cls := .type "tuple",data := .seq #[x,y] }) tk2 px py (Heap.get?_push_of_some _ z3)
    (D1.frame _ _ _ t2 fun c hc o e => Heap.get?_push_of_some _ (m3.extBut _ _ (D.b1 c hc).2.2 e)) (D2.frame _ _ _ u3 fun c hc o e => Heap.get?_push_of_some _ e)
    (by show IsPair _ hp.objs.size x y; rw [← sz]; exact Heap.get?_push_size _ rfl) (by rw [Heap.size_push,sz])
    fun c o n1 n3 n4 e => Heap.get?_push_of_some _ (m3.extBut _ _ n4 (m2.extBut _ _ n3 (m1.extBut _ _ n1 e)))
  rw [sz]
  exact q3
theorem JCi {Q : PySem.Fin → Shared → Prop} (D1 : Draws prog w A i1 fp1 n1 P1 S1) (D2 : Draws prog w A i2 fp2 n2 P2 S2) (D : Apart z TI TO i1 i2 fp1 fp2) (hZ : Jky s.heap z TI TO T c) (hI : IsPair s.heap TI (.ref i1) (.ref i2)) (hT : ∃ o,s.heap.get? T = some o)
    (s1 : S1 k s.heap) (s2 : S2 k s.heap) (ke : k = n1 ∨ (k < n1 ∧ k = n2))
    (q : ∀ h' e tk,(∀ c o,c ≠ z → c ≠ i1 → c ≠ i2 → s.heap.get? c = some o → h'.get? c = some o) → (∃ o,h'.get? e = some o ∧ o.cls = .type "StopIteration") → E (.ref e) { s with heap := h',toks := tk }) :
    wpAny (model prog w) A (Builtin.«zip.__next__» ⟨[.ref z],[]⟩) Q E s := by
  obtain ⟨hp,g,d,tk0,os⟩ := s
  refine (show wpAny _ _ (field (.ref z) 2 >>= _) _ _ _ from wpAny_bind (wpAny_field hZ rfl (x := .bool false) rfl ?_))
  refine (show wpAny _ _ (field (.ref z) 3 >>= _) _ _ _ from wpAny_bind (wpAny_field hZ rfl (x := .ref TI) rfl (wpAny_bind (wpAny_seqItems hI rfl ?_))))
  refine (show wpAny _ _ (Builtin.SmallTypes.ownedTupleIsFree (.ref z) >>= _) _ _ _ from wpAny_bind (Jrd hZ hT fun g1 z1 m1 => ?_))
  replace m1 : Heap.SameBut z hp g1 := m1
  simp only [Bool.false_eq_true,if_false]
  have t1 : S1 k g1 := D1.frame _ _ _ s1 fun c hc o e => m1.extBut _ _ (D.b1 c hc).1 e
  have u1 : S2 k g1 := D2.frame _ _ _ s2 fun c hc o e => m1.extBut _ _ (D.b2 c hc).1 e
  refine wpAny_bind ?_
  simp only [List.forIn_toArray,List.forIn_cons,List.forIn_nil]
  rcases ke with ke | ⟨k1,ke⟩
  · subst ke
    refine wpAny_bind (wpAny_bind (wpAny_holding (show wpAny _ _ (Builtin.SmallTypes.nextOf (.ref i1) >>= _) _ _ _ from wpAny_bind (D1.done ⟨g1,g,d,tk0,os⟩ _ _ t1 fun g2 e m2 he => ?_))))
    replace m2 : Heap.ExtBut i1 g1 g2 := m2
    exact q g2 e tk0 (fun c o n1 n3 _ x => m2 _ _ n3 (m1.extBut _ _ n1 x)) he
  · refine wpAny_bind (wpAny_bind (wpAny_holding (show wpAny _ _ (Builtin.SmallTypes.nextOf (.ref i1) >>= _) _ _ _ from wpAny_bind (D1.item k ⟨g1,g,d,tk0,os⟩ _ _ k1 t1 fun x g2 tk1 px t2 m2 => wpAny_pure ?_))))
    replace m2 : Heap.SameBut i1 g1 g2 := m2
    have u2 : S2 k g2 := D2.frame _ _ _ u1 fun c hc o e => m2.extBut _ _ (D.b2 c hc).2.2 e
    rw [ke] at u2
    refine wpAny_pure ?_
    refine wpAny_bind (wpAny_bind (wpAny_holding (show wpAny _ _ (Builtin.SmallTypes.nextOf (.ref i2) >>= _) _ _ _ from wpAny_bind (D2.done ⟨g2,g,d,tk1,os⟩ _ _ u2 fun g3 e m3 he => ?_))))
    replace m3 : Heap.ExtBut i2 g2 g3 := m3
    exact q g3 e tk1 (fun c o n1 n3 n4 x => m3 _ _ n4 (m2.extBut _ _ n3 (m1.extBut _ _ n1 x))) he
def ZS (z TI TO i1 i2 : Addr) (S1 S2 : Nat → Heap → Prop) (k : Nat) (h : Heap) : Prop :=
  IsPair h TI (.ref i1) (.ref i2) ∧ S1 k h ∧ S2 k h ∧ ((∃ a b,IsZip h z TI TO .none ∧ IsPair h TO a b) ∨ ∃ T c o,Jky h z TI TO T c ∧ h.get? T = some o ∧ T ≠ z ∧ T ≠ i1 ∧ T ≠ i2)
theorem ZS.type (st : ZS z TI TO i1 i2 S1 S2 k s.heap) : s.TypeIs (.ref z) "zip" := by
  obtain ⟨_,_,_,⟨_,_,h,_⟩ | ⟨_,_,_,h,_⟩⟩ := st
  · exact ⟨_,h,rfl⟩
  · exact ⟨_,h,rfl⟩
theorem ZS.lt {h : Heap} (st : ZS z TI TO i1 i2 S1 S2 k h) : z < h.objs.size := by
  obtain ⟨_,_,_,⟨_,_,h,_⟩ | ⟨_,_,_,h,_⟩⟩ := st
  · exact Heap.lt_size h
  · exact Heap.lt_size h
theorem ZS.frame {h h' : Heap} (D1 : Draws prog w A i1 fp1 n1 P1 S1) (D2 : Draws prog w A i2 fp2 n2 P2 S2) (st : ZS z TI TO i1 i2 S1 S2 k h) {S : Addr} (f1 : S ∉ fp1) (f2 : S ∉ fp2) (n1 : S ≠ z) (n2 : S ≠ TI) (n3 : S ≠ TO) (lv : ∃ o,h'.get? S = some o) (m : ∀ c o,c ≠ S → h.get? c = some o → h'.get? c = some o) : ZS z TI TO i1 i2 S1 S2 k h' := by
  obtain ⟨a1,a2,a3,a4⟩ := st
  refine ⟨m _ _ (Ne.symm n2) a1,D1.frame _ _ _ a2 fun c hc o e => m c o (fun q => f1 (q ▸ hc)) e,D2.frame _ _ _ a3 fun c hc o e => m c o (fun q => f2 (q ▸ hc)) e,?_⟩
  rcases a4 with ⟨a,b,b1,b2⟩ | ⟨T,c,o,b1,b2,b3⟩
  · exact .inl ⟨a,b,m _ _ (Ne.symm n1) b1,m _ _ (Ne.symm n3) b2⟩
  · by_cases q : T = S
    · obtain ⟨o',e⟩ := lv
      exact .inr ⟨T,c,o',m _ _ (Ne.symm n1) b1,q ▸ e,b3⟩
    · exact .inr ⟨T,c,o,m _ _ (Ne.symm n1) b1,m _ _ q b2,b3⟩
theorem Jzq {Q : Option Value → Shared → Prop} (D1 : Draws prog w A.in1 i1 fp1 n1 P1 S1) (D2 : Draws prog w A.in1 i2 fp2 n2 P2 S2) (D : Apart z TI TO i1 i2 fp1 fp2) (st : ZS z TI TO i1 i2 S1 S2 k s.heap) (k1 : k < n1) (k2 : k < n2)
    (q : ∀ x y h' tk,P1 k x → P2 k y → ZS z TI TO i1 i2 S1 S2 (k + 1) h' → IsPair h' s.heap.objs.size x y → h'.objs.size = s.heap.objs.size + 1 → (∀ c o,c ≠ z → c ≠ TO → c ≠ i1 → c ≠ i2 → s.heap.get? c = some o → h'.get? c = some o) → Q (some (.ref s.heap.objs.size)) { s with heap := h',toks := tk }) :
    wpAny (model prog w) A (pyNext (.ref z)) Q E s := by
  have T := st.type
  have lz := st.lt
  obtain ⟨a1,a2,a3,a4⟩ := st
  obtain ⟨_,l1⟩ := D1.live _ _ a2
  obtain ⟨_,l2⟩ := D2.live _ _ a3
  rcases a4 with ⟨a,b,b1,b2⟩ | ⟨T',c,o,b1,b2,b3,b4,b5⟩
  · refine Jw8 D1 D2 D b1 a1 b2 a2 a3 k1 k2 fun x y h' tk p1 p2 c1 c2 c3 c4 c5 c6 c7 => q x y h' tk p1 p2 ⟨c7 _ _ D.a1 D.a3 (Ne.symm D.c1.2.2) (Ne.symm D.c2.2.2) a1,c3,c4,.inr ⟨_,false,_,c1,c5,Nat.ne_of_gt lz,Nat.ne_of_gt (Heap.lt_size l1),Nat.ne_of_gt (Heap.lt_size l2)⟩⟩ c5 c6 c7
  · unfold pyNext
    refine wpAny_bind (wpAny_attempt (wpAny_callSpecial?_slot (name := Str.ofString "__next__") T PySem.F.slot_zip_next (wpAny_call_entry PySem.F.slot_zip_next T PySem.F.entry_zip_next (zipU D1 D2 D b1 a1 ⟨o,b2⟩ a2 a3 k1 k2 fun x y h' tk p1 p2 c1 c3 c4 c5 c6 c7 => wpAny_pure (q x y h' tk p1 p2 ?_ c5 c6 fun c o n1 _ n3 n4 e => c7 c o n1 n3 n4 e)) (PySem.F.args_zip_next_1 _))))
    exact ⟨c7 _ _ D.a1 (Ne.symm D.c1.2.2) (Ne.symm D.c2.2.2) a1,c3,c4,.inr ⟨T',true,o,c1,c7 _ _ b3 b4 b5 b2,b3,b4,b5⟩⟩
theorem Jw7 {Q : Option Value → Shared → Prop} (D1 : Draws prog w A.in1 i1 fp1 n1 P1 S1) (D2 : Draws prog w A.in1 i2 fp2 n2 P2 S2) (D : Apart z TI TO i1 i2 fp1 fp2) (st : ZS z TI TO i1 i2 S1 S2 k s.heap) (ke : k = n1 ∨ (k < n1 ∧ k = n2))
    (q : ∀ h' tk,(∀ c o,c ≠ z → c ≠ TO → c ≠ i1 → c ≠ i2 → s.heap.get? c = some o → h'.get? c = some o) → Q none { s with heap := h',toks := tk }) : wpAny (model prog w) A (pyNext (.ref z)) Q E s := by
  have T := st.type
  obtain ⟨a1,a2,a3,a4⟩ := st
  rcases a4 with ⟨a,b,b1,b2⟩ | ⟨T',c,o,b1,b2,b3,b4,b5⟩
  · exact Jw6 D1 D2 D b1 a1 b2 a2 a3 ke q
  · unfold pyNext
    refine wpAny_bind (wpAny_attempt (wpAny_callSpecial?_slot (name := Str.ofString "__next__") T PySem.F.slot_zip_next (wpAny_call_entry PySem.F.slot_zip_next T PySem.F.entry_zip_next (JCi D1 D2 D b1 a1 ⟨o,b2⟩ a2 a3 ke fun h' e tk kk he => ?_) (PySem.F.args_zip_next_1 _))))
    obtain ⟨o,e1,e2⟩ := he
    exact wpAny_bind (wpAny_isInstance (T := "StopIteration") (b := true) ⟨o,e1,e2⟩ isSubtype_stop (wpAny_pure (q h' tk fun c o n1 _ n3 n4 e => kk c o n1 n3 n4 e)))
def Laid (P1 P2 : Nat → Value → Prop) (t0 k : Nat) (h : Heap) : Prop := ∀ j,j < k → ∃ x y,P1 j x ∧ P2 j y ∧ IsPair h (t0 + j) x y
theorem Jxa {R : Result → Shared → Prop} (D1 : Draws prog w A.in1.in1 i1 fp1 n1 P1 S1) (D2 : Draws prog w A.in1.in1 i2 fp2 n2 P2 S2) (D : Apart z TI TO i1 i2 fp1 fp2) {m t0 : Nat} (hm : ∀ k,k < m → k < n1 ∧ k < n2) (he : m = n1 ∨ (m < n1 ∧ m = n2)) (hs : m ≤ 1000000) (S : Addr) (f1 : S ∉ fp1) (f2 : S ∉ fp2) (e1 : S ≠ z) (e2 : S ≠ TI) (e3 : S ≠ TO) (e4 : S ≠ i1) (e5 : S ≠ i2) (e6 : S < t0)
    (far : z < t0 ∧ TO < t0 ∧ i1 < t0 ∧ i2 < t0) (res : Value) :
    ∀ (j k : Nat) (s : Shared) (acc : Array Value) (c : Nat),m - k = j → k ≤ m → ZS z TI TO i1 i2 S1 S2 k s.heap → s.heap.get? S = some { cls := .type "list",dict := none,data := .seq acc c,slots := #[] } → acc = ((List.range k).map fun j => Value.ref (t0 + j)).toArray → s.heap.objs.size = t0 + k → Laid P1 P2 t0 k s.heap →
    (∀ h' tk c',(∀ b o,b ≠ z → b ≠ TO → b ≠ i1 → b ≠ i2 → b ≠ S → s.heap.get? b = some o → h'.get? b = some o) → h'.get? S = some { cls := .type "list",dict := none,data := .seq ((List.range m).map fun j => Value.ref (t0 + j)).toArray c',slots := #[] } → Laid P1 P2 t0 m h' → R (.ok (.ret res)) { s with heap := h',toks := tk }) →
    codeAny (model prog w) A (.builtin "list.extend.loop" ⟨[.ref S,.ref z,res],[]⟩) R s := by
  have aw : ∀ j : Nat,t0 + j ≠ z ∧ t0 + j ≠ TO ∧ t0 + j ≠ i1 ∧ t0 + j ≠ i2 ∧ t0 + j ≠ S := fun j => ⟨Nat.ne_of_gt (Nat.lt_of_lt_of_le far.1 (Nat.le_add_right _ _)),Nat.ne_of_gt (Nat.lt_of_lt_of_le far.2.1 (Nat.le_add_right _ _)),Nat.ne_of_gt (Nat.lt_of_lt_of_le far.2.2.1 (Nat.le_add_right _ _)),Nat.ne_of_gt (Nat.lt_of_lt_of_le far.2.2.2 (Nat.le_add_right _ _)),Nat.ne_of_gt (Nat.lt_of_lt_of_le e6 (Nat.le_add_right _ _))⟩
  have hs2 : m ≤ sizeLine := Nat.le_trans hs (by decide)
  intro j
  induction j with
  | zero =>
    intro k s acc c hj hk st hS ha hz hl q
    have hkm : k = m := by omega
    subst hkm
    refine codeAny_builtin PySem.F.entry_extend_loop ?_
    rw [Around.under_plainId PySem.F.plain_extend_loop _]
    show wpAny _ A.in1 (pyNext (.ref z) >>= _) _ _ s
    refine wpAny_bind (Jw7 D1 D2 D st he fun h' tk kk => wpAny_pure (q h' tk c (fun b o n1 n2 n3 n4 _ e => kk b o n1 n2 n3 n4 e) ?_ ?_))
    · rw [← ha]; exact kk _ _ e1 e3 e4 e5 hS
    · intro j hj
      obtain ⟨x,y,p1,p2,t⟩ := hl j hj
      exact ⟨x,y,p1,p2,kk _ _ (aw j).1 (aw j).2.1 (aw j).2.2.1 (aw j).2.2.2.1 t⟩
  | succ j ih =>
    intro k s acc c hj hk st hS ha hz hl q
    have hlt : k < m := by omega
    refine codeAny_builtin PySem.F.entry_extend_loop ?_
    rw [Around.under_plainId PySem.F.plain_extend_loop _]
    show wpAny _ A.in1 (pyNext (.ref z) >>= _) _ _ s
    refine wpAny_bind (Jzq D1 D2 D st (hm k hlt).1 (hm k hlt).2 fun x y h' tk p1 p2 st' tp sz kk => ?_)
    have hS' := kk _ _ e1 e3 e4 e5 hS
    have hlen : acc.size = k := by rw [ha]; simp
    show wpAny _ A.in1 (updateSeq S (·.push (.ref s.heap.objs.size)) >>= _) _ _ _
    refine wpAny_bind ?_
    have oth : ∀ b o,b ≠ S → h'.get? b = some o → (h'.update S (Obj.mapSeq (·.push (Value.ref s.heap.objs.size)))).get? b = some o := fun b o n e => (Heap.get?_update_other _ _ (Ne.symm n)).trans e
    have hS2 := Heap.get?_update_self (Obj.mapSeq (·.push (Value.ref s.heap.objs.size))) hS' rfl
    have szu : (h'.update S (Obj.mapSeq (·.push (Value.ref s.heap.objs.size)))).objs.size = h'.objs.size := (Heap.SameBut.update ..).1
    refine wpAny_updateSeq hS' rfl (wpAny_pure ⟨plainId_quiet PySem.F.plain_extend_loop _,ih (k + 1) _ (acc.push (.ref s.heap.objs.size)) _ (by omega) hlt (ZS.frame D1 D2 st' f1 f2 e1 e2 e3 ⟨_,hS2⟩ oth) hS2 ?_ ?_ ?_ fun h'' tk'' c'' kk2 hS3 hl3 => ?_⟩)
      (by rw [hlen]; omega) (by show (acc.push _).size ≤ sizeLine + 1; rw [Array.size_push,hlen]; omega)
    · rw [ha,hz,List.range_succ]; simp
    · rw [show (Shared.heap _).objs.size = _ from szu,sz,hz]; omega
    · intro j hj
      by_cases q' : j = k
      · subst q'
        refine ⟨x,y,p1,p2,oth _ _ (aw _).2.2.2.2 ?_⟩
        rw [← hz]; exact tp
      · obtain ⟨x',y',r1,r2,t⟩ := hl j (by omega)
        exact ⟨x',y',r1,r2,oth _ _ (aw j).2.2.2.2 (kk _ _ (aw j).1 (aw j).2.1 (aw j).2.2.1 (aw j).2.2.2.1 t)⟩
    · exact q h'' tk'' c'' (fun b o n1 n2 n3 n4 n5 e => kk2 b o n1 n2 n3 n4 n5 (oth b o n5 (kk b o n1 n2 n3 n4 e))) hS3 hl3
theorem Jt6 : typeLookup (.type "zip") "__len__" = pure none := by rw [typeLookup_type,builtinLookup_eq_fast]; kernel_rfl
theorem Jrc : typeLookup (.type "zip") "__length_hint__" = pure none := by rw [typeLookup_type,builtinLookup_eq_fast]; kernel_rfl
theorem ZS.push {h : Heap} (D1 : Draws prog w A i1 fp1 n1 P1 S1) (D2 : Draws prog w A i2 fp2 n2 P2 S2) (st : ZS z TI TO i1 i2 S1 S2 k h) (o : Obj) : ZS z TI TO i1 i2 S1 S2 k (h.push o) := by
  obtain ⟨a1,a2,a3,a4⟩ := st
  refine ⟨Heap.get?_push_of_some _ a1,D1.frame _ _ _ a2 fun c hc o e => Heap.get?_push_of_some _ e,D2.frame _ _ _ a3 fun c hc o e => Heap.get?_push_of_some _ e,?_⟩
  rcases a4 with ⟨a,b,b1,b2⟩ | ⟨T,c,o,b1,b2,b3⟩
  · exact .inl ⟨a,b,Heap.get?_push_of_some _ b1,Heap.get?_push_of_some _ b2⟩
  · exact .inr ⟨T,c,o,Heap.get?_push_of_some _ b1,Heap.get?_push_of_some _ b2,b3⟩
theorem Jyw {Q : Value → Shared → Prop} (T : s.TypeIs (.ref z) "zip") (q : Q (.ref z) s) : wpAny (model prog w) A (pyIter (.ref z)) Q E s :=
  wpAny_pyIter_slot T PySem.F.slot_zip_iter (wpAny_call_entry PySem.F.slot_zip_iter T PySem.F.entry_zip_iter (show wpAny _ _ (ret (.ref z)) _ _ s from wpAny_pure ⟨_,rfl,"zip",_,T,PySem.F.slot_zip_next.lookup,q⟩) (PySem.F.args_zip_iter_1 _))
theorem Jyq {Q : Value → Shared → Prop} (D1 : Draws prog w A.in1.in1.in1 i1 fp1 n1 P1 S1) (D2 : Draws prog w A.in1.in1.in1 i2 fp2 n2 P2 S2) (D : Apart z TI TO i1 i2 fp1 fp2) {m : Nat} (hm : ∀ k,k < m → k < n1 ∧ k < n2) (he : m = n1 ∨ (m < n1 ∧ m = n2)) (hs : m ≤ 1000000) (st : ZS z TI TO i1 i2 S1 S2 0 s.heap)
    (l1 : ∀ b ∈ fp1,b < s.heap.objs.size) (l2 : ∀ b ∈ fp2,b < s.heap.objs.size) (l3 : z < s.heap.objs.size ∧ TI < s.heap.objs.size ∧ TO < s.heap.objs.size ∧ i1 < s.heap.objs.size ∧ i2 < s.heap.objs.size)
    (q : ∀ h' tk c',(∀ b o,b ≠ z → b ≠ TO → b ≠ i1 → b ≠ i2 → s.heap.get? b = some o → h'.get? b = some o) → h'.get? s.heap.objs.size = some { cls := .type "list",dict := none,data := .seq ((List.range m).map fun j => Value.ref (s.heap.objs.size + 1 + j)).toArray c',slots := #[] } →
      Laid P1 P2 (s.heap.objs.size + 1) m h' → Q (.ref s.heap.objs.size) { s with heap := h',toks := tk }) : wpAny (model prog w) A (call (.type "list") [.ref z]) Q E s := by
  refine callType_codes (Q₁ := fun obj s₁ => obj = .ref s.heap.objs.size ∧ s₁ = { s with heap := s.heap.push { cls := .type "list",data := .seq #[] } }) PySem.F.called_list (PySem.F.typeCall_list_1 _) PySem.F.entry_list_init (code_list_new _ ⟨rfl,rfl⟩) fun obj s₁ h₁ => ?_
  obtain ⟨rfl,rfl⟩ := h₁
  have g0 : (s.heap.push { cls := .type "list",data := .seq #[] }).get? s.heap.objs.size = some { cls := .type "list",data := .seq #[] } := Heap.get?_push_size _ rfl
  refine ⟨⟨_,g0,rfl⟩,PySem.F.args_list_init_2 _ _,?_⟩
  generalize hS : s.heap.objs.size = S at *
  have st0 := ZS.push D1 D2 st { cls := .type "list",data := .seq #[] }
  have sz0 : (s.heap.push { cls := .type "list",data := .seq #[] }).objs.size = S + 1 := by rw [Heap.size_push,hS]
  have k0 : ∀ b o,s.heap.get? b = some o → (s.heap.push { cls := .type "list",data := .seq #[] }).get? b = some o := fun b o e => Heap.get?_push_of_some _ e
  generalize s.heap.push { cls := .type "list",data := .seq #[] } = h0 at *
  have ne1 : S ≠ z := Nat.ne_of_gt l3.1
  have ne2 : S ≠ TI := Nat.ne_of_gt l3.2.1
  have ne3 : S ≠ TO := Nat.ne_of_gt l3.2.2.1
  have ne4 : S ≠ i1 := Nat.ne_of_gt l3.2.2.2.1
  have ne5 : S ≠ i2 := Nat.ne_of_gt l3.2.2.2.2
  have nf1 : S ∉ fp1 := fun z => Nat.lt_irrefl _ (l1 _ z)
  have nf2 : S ∉ fp2 := fun z => Nat.lt_irrefl _ (l2 _ z)
  -- one write of the new list after the other
  have wr : ∀ (h : Heap) (f : Array Value → Array Value) (xs : Array Value) (c : Nat),h.get? S = some { cls := .type "list",data := .seq xs c } → (∀ b o,b ≠ S → h.get? b = some o → (h.update S (Obj.mapSeq f)).get? b = some o) ∧ (h.update S (Obj.mapSeq f)).objs.size = h.objs.size := fun h f xs c e => ⟨fun b o n e => (Heap.get?_update_other _ _ (Ne.symm n)).trans e,(Heap.SameBut.update ..).1⟩
  refine (show wpAny _ _ (do let old ← Builtin.List.listItems (.ref S); Builtin.List.listUpdate (.ref S) (fun _ => #[]); letGo old.toList.reverse; Builtin.List.listExtendWith (.ref S) (.ref z) .none) _ _ _ from wpAny_bind ?_)
  unfold Builtin.List.listItems
  refine wpAny_bind (wpAny_seqItems g0 rfl (wpAny_pure (show wpAny _ _ (updateSeq S (fun _ => #[]) >>= fun _ => letGo (#[] : Array Value).toList.reverse >>= fun _ => Builtin.List.listExtendWith (.ref S) (.ref z) .none) _ _ _ from wpAny_bind (wpAny_updateSeq g0 rfl (wpAny_bind (wpAny_letGo ?_))))))
  have g1 := Heap.get?_update_self (Obj.mapSeq (fun _ => (#[] : Array Value))) g0 rfl
  obtain ⟨o1,z1⟩ := wr h0 (fun _ => #[]) _ _ g0
  have st1 := ZS.frame D1 D2 st0 nf1 nf2 ne1 ne2 ne3 ⟨_,g1⟩ o1
  unfold Builtin.List.listExtendWith
  refine wpAny_bind (wpAny_typeOf (st1.type (s := { s with heap := _ })) ?_)
  have b1 : Builtin.List.listSameRef (.ref S) (.ref z) = false := by simp [Builtin.List.listSameRef,ne1]
  rw [if_neg (by rw [b1]; decide)]
  have ty1 : Shared.TypeIs { s with heap := h0.update S (Obj.mapSeq (fun _ => (#[] : Array Value))) } (.ref z) "zip" := st1.type (s := { s with heap := _ })
  refine wpAny_bind (Jyw ty1 ?_)
  refine wpAny_bind (wpAny_holding ?_)
  unfold Builtin.List.listLengthHint
  refine wpAny_bind (wpAny_specialOf ty1 Jt6 ?_)
  refine (show wpAny _ _ (specialOf (Value.ref z) (Str.ofString "__length_hint__") >>= _) _ _ _ from wpAny_bind (wpAny_specialOf ty1 Jrc (wpAny_pure ?_)))
  refine (show wpAny _ _ (rule "list.extend.makes-room" >>= fun _ => Builtin.List.listTouch (.ref S) >>= fun _ => again (.builtin "list.extend.loop" ⟨[.ref S,.ref z,.none],[]⟩)) _ _ _ from wpAny_bind (wpAny_rule (wpAny_bind ?_)))
  refine (show wpAny _ _ (updateSeq S (·.push .none) >>= fun _ => updateSeq S (·.pop)) _ _ _ from wpAny_bind (wpAny_updateSeq g1 rfl ?_))
  have g2 := Heap.get?_update_self (Obj.mapSeq (·.push Value.none)) g1 rfl
  obtain ⟨o2,z2⟩ := wr _ (·.push Value.none) _ _ g1
  have g3 := Heap.get?_update_self (Obj.mapSeq (·.pop)) g2 rfl
  obtain ⟨o3,z3⟩ := wr _ (·.pop) _ _ g2
  refine wpAny_updateSeq (hz := by seq_fits) g2 rfl ?_
  have st3 := ZS.frame D1 D2 (ZS.frame D1 D2 st1 nf1 nf2 ne1 ne2 ne3 ⟨_,g2⟩ o2) nf1 nf2 ne1 ne2 ne3 ⟨_,g3⟩ o3
  refine wpAny_pure ⟨plainId_quiet PySem.F.plain_extend_loop _,Jxa D1 D2 D (t0 := S + 1) hm he hs S nf1 nf2 ne1 ne2 ne3 ne4 ne5 (Nat.lt_succ_self _) ⟨Nat.lt_succ_of_lt l3.1,Nat.lt_succ_of_lt l3.2.2.1,Nat.lt_succ_of_lt l3.2.2.2.1,Nat.lt_succ_of_lt l3.2.2.2.2⟩ _ m 0 _ _ _ rfl (Nat.zero_le _) st3 g3 ?_ ?_ (fun j hj => absurd hj (Nat.not_lt_zero _)) fun h' tk c' kk hS' hl => ⟨rfl,q h' tk c' (fun b o n1 n2 n3 n4 e => ?_) hS' hl⟩⟩
  · simp
  · show (Heap.update _ _ _).objs.size = _
    rw [z3,z2,z1,sz0]
  · have nb : b ≠ S := Nat.ne_of_lt (hS ▸ Heap.lt_size e)
    exact kk b o n1 n2 n3 n4 nb (o3 b o nb (o2 b o nb (o1 b o nb (k0 b o e))))
end
end HT
end
section
set_option Elab.async false
set_option maxRecDepth 10000
set_option linter.all false
namespace L2
open PySem PySem.Spec PyProof.Rows
section
variable {X : Cx} {pins : List (Addr × Obj)} {σ : St} {H : Hp} {s : Shared}
theorem Inv.JDm {H' : Hp} {h' : Heap} {d' : Drawn} {t' : Nat} (I : Inv X pins σ H s) (k : ∀ b u,s.heap.get? b = some u → h'.get? b = some u) (old : ∀ b,b < s.heap.objs.size → H' b = H b) (ext : ∀ b o,H b = some o → H' b = some o)
    (new : ∀ b o,H' b = some o → H b = none → Jd1 X.prog X.w H' h' b o) : Inv X pins σ H' { s with heap := h',drawn := d',toks := t' } := by
  refine I.step (g' := s.gens) (ch := []) (fun _ z => nomatch z) (fun b u _ _ _ e _ => k b u e) (fun b u _ _ _ e _ => ⟨u.slots,k b u e⟩) (fun b u _ e n => by rw [old b (Heap.lt_size e)]; exact n) (fun b u _ e => ⟨u,k b u e⟩)
    (fun b xs e => ext _ _ e) (fun b u xs e => ext _ _ e) (fun b ps e => ⟨#[],by rw [ext _ _ e]; simp⟩) (fun m hm => ?_) (fun b u e => ?_) I.bare (fun n => by rw [old _ I.bigS]; exact n)
  · obtain ⟨ob,es,ep,e,r⟩ := hm
    exact ⟨ob,es,ep,k _ _ e,r⟩
  · cases q : H b with
    | none => exact new b u e q
    | some o =>
      have := ext b o q
      rw [this] at e
      cases e
      exact (I.hok b _ q).stay (fun c v _ q => k c v q) (fun c q => ext _ _ q) fun c xs q => ext _ _ q
end
def Juf (L : Bool) (ta : TA) : TE := fun σ H Q => ta σ H fun vs H1 => ∃ a b xs ys,vs = [.ref a,.ref b] ∧ H1 a = some (HB L xs) ∧ H1 b = some (HB L ys) ∧ (xs.zip ys).length ≤ 1000000 ∧
  ∀ l t0 H2,H1 l = none → (∀ c o,H1 c = some o → H2 c = some o) → H2 l = some (.lst ((List.range (xs.zip ys).length).map fun j => V.ref (t0 + j))) → (∀ j p,(xs.zip ys)[j]? = some p → H2 (t0 + j) = some (.tup [p.1,p.2])) → Q (.ref l) H2
section
variable {X : Cx}
theorem Jqs (L : Bool) {a b : Expr} {ta : TA} {p p2 pos pos2 : Pos} (hc : X.calm = true) (hg : Gl X "list") (hm : X.mg "list" = none) (hg2 : Gl X "zip") (hm2 : X.mg "zip" = none) (ha : PA X [a,b] ta) (hs : starEach [a,b] X.env = [(false,eval a X.env),(false,eval b X.env)] := by rfl) (hs2 : starEach [b] X.env = [(false,eval b X.env)] := by rfl)
    (he2 : starEach [.Call (.Name "zip" p2) [a,b] [] pos2] X.env = [(false,eval (.Call (.Name "zip" p2) [a,b] [] pos2) X.env)] := by rfl) : PE X (.Call (.Name "list" p) [.Call (.Name "zip" p2) [a,b] [] pos2] [] pos) (Juf L ta) := by
  intro pins s σ H Q I h
  refine wpAny_Call_Name_kw (Jka I hg hm (by decide +kernel : bootBuiltins "list" = some (.type "list")) (PyProof.Rows.callWith_type1 ?_ he2 rfl))
  rw [he2]
  refine (show wpAny _ _ (spliced ((false,eval (.Call (.Name "zip" p2) [a,b] [] pos2) X.env) :: backTo pos (starEach [] X.env))) _ _ s from Calls.spliced_cons ?_)
  refine Call_ (Jka I hg2 hm2 (by decide +kernel : bootBuiltins "zip" = some (.type "zip")) (PyProof.Rows.callWith_type1 (thn (ha pos2 pins s σ H _ I h) fun us s1 ⟨vs,H1,I1,r1,q1⟩ => ?_) (by rw [hs,hs2]) (by rw [hs2]; rfl)))
  obtain ⟨l,m,xs,ys,e,e1,e2,hl,q⟩ := q1
  subst e
  obtain ⟨us1,us2⟩ : us = [.ref l,.ref m] ∧ True := by
    cases r1 with
    | cons r rr =>
      cases rr with
      | cons r' rr =>
        cases rr
        cases r
        cases r'
        exact ⟨rfl,trivial⟩
  subst us1
  obtain ⟨its1,rv1,p1⟩ := I1.seqB e1
  obtain ⟨its2,rv2,p2⟩ := I1.seqB e2
  have fin : ∀ h',IsZip h' (s1.heap.objs.size + 4) (s1.heap.objs.size + 2) (s1.heap.objs.size + 3) .none → IsPair h' (s1.heap.objs.size + 2) (.ref s1.heap.objs.size) (.ref (s1.heap.objs.size + 1)) → IsPair h' (s1.heap.objs.size + 3) .none .none →
      Jol L h' s1.heap.objs.size l 0 → Jol L h' (s1.heap.objs.size + 1) m 0 → (∀ c o,s1.heap.get? c = some o → h'.get? c = some o) → wpAny (model X.prog X.w) X.A (spliced (backTo pos (starEach [] X.env))) (fun us s2 => wpAny (model X.prog X.w) X.A (call (.type "list") (.ref (s1.heap.objs.size + 4) :: us)) (fun v s3 => ∃ x H',Inv X pins σ H' s3 ∧ RelV x v ∧ Q x H') X.xe s2) X.xe { s1 with heap := h' } := fun h' c1 c2 c3 c4 c5 k => by
    refine Calls.spliced_nil ?_
    generalize hn : s1.heap.objs.size = n at *
    have seqAt : ∀ (t : Addr) (ws : Array Value),SeqB L s1.heap t ws → SeqB L h' t ws ∧ t < n := fun t ws x => by
      cases L with
      | true =>
        refine ⟨Heap.IsList.at x fun o e => k _ _ e,?_⟩
        obtain ⟨o,e,_⟩ := (show s1.heap.IsList t ws from x)
        exact hn ▸ Heap.lt_size e
      | false =>
        refine ⟨Heap.IsTuple.at x fun o e => k _ _ e,?_⟩
        obtain ⟨o,e,_⟩ := (show s1.heap.IsTuple t ws from x)
        exact hn ▸ Heap.lt_size e
    obtain ⟨q1,ll⟩ := seqAt _ _ p1
    obtain ⟨q2,lm⟩ := seqAt _ _ p2
    have lz : n + 4 < h'.objs.size := Heap.lt_size c1
    have lz0 : n < h'.objs.size := Nat.lt_trans (Nat.lt_add_of_pos_right (by decide)) lz
    have lz1 : n + 1 < h'.objs.size := Nat.lt_trans (Nat.add_lt_add_left (by decide) n) lz
    have lz2 : n + 2 < h'.objs.size := Nat.lt_trans (Nat.add_lt_add_left (by decide) n) lz
    have lz3 : n + 3 < h'.objs.size := Nat.lt_trans (Nat.add_lt_add_left (by decide) n) lz
    have hh : X.A.in1.in1.in1.handled = none := I1.ok.hd hc
    have sl1 := rv1.length
    have sl2 := rv2.length
    have hlen : (xs.zip ys).length = min its1.length its2.length := by rw [List.length_zip,sl1,sl2]
    refine HT.Jyq (z := n + 4) (TI := n + 2) (TO := n + 3) (i1 := n) (i2 := n + 1) (m := (xs.zip ys).length) (Jw0 L hh n l (Nat.ne_of_lt ll) its1.toArray) (Jw0 L hh (n + 1) m (Nat.ne_of_lt (Nat.lt_succ_of_lt lm)) its2.toArray)
      (Jwa (by simp) (by simp) (by simp) ⟨by simp,by simp,by simp⟩ ⟨by simp,by simp,by simp⟩ (by simp) (by simp only [List.mem_cons,List.not_mem_nil,or_false,not_or]; exact ⟨Nat.ne_of_lt (Nat.lt_of_lt_of_le ll (Nat.le_add_right _ _)),Nat.ne_of_lt (Nat.lt_of_lt_of_le ll (Nat.le_add_right _ _)),Nat.ne_of_lt (Nat.lt_of_lt_of_le ll (Nat.le_add_right _ _)),Nat.ne_of_lt ll,Nat.ne_of_lt (Nat.lt_of_lt_of_le ll (Nat.le_add_right _ _))⟩)
        (by simp only [List.mem_cons,List.not_mem_nil,or_false,not_or]; exact ⟨Nat.ne_of_lt (Nat.lt_of_lt_of_le lm (Nat.le_add_right _ _)),Nat.ne_of_lt (Nat.lt_of_lt_of_le lm (Nat.le_add_right _ _)),Nat.ne_of_lt (Nat.lt_of_lt_of_le lm (Nat.le_add_right _ _)),Nat.ne_of_lt lm,Nat.ne_of_lt (Nat.lt_of_lt_of_le lm (Nat.le_add_right _ _))⟩))
      (fun j hj => by rw [hlen] at hj; simp; omega) (by rw [hlen]; simp; omega) hl ⟨c2,⟨c4,q1⟩,⟨c5,q2⟩,.inl ⟨_,_,c1,c3⟩⟩ ?_ ?_ ⟨lz,lz2,lz3,lz0,lz1⟩ fun h2 tk c' kk hS hL => ?_
    · intro b hb
      simp only [List.mem_cons,List.not_mem_nil,or_false] at hb
      show b < h'.objs.size
      rcases hb with rfl | rfl
      · exact lz0
      · exact Nat.lt_trans ll lz0
    · intro b hb
      simp only [List.mem_cons,List.not_mem_nil,or_false] at hb
      show b < h'.objs.size
      rcases hb with rfl | rfl
      · exact lz1
      · exact Nat.lt_trans lm lz0
    · generalize hS' : h'.objs.size = S at *
      have up : ∀ b u,s1.heap.get? b = some u → b < n := fun b u e => hn ▸ Heap.lt_size e
      have k2 : ∀ b u,s1.heap.get? b = some u → h2.get? b = some u := fun b u e => by
        have := up b u e
        exact kk b u (Nat.ne_of_lt (Nat.lt_of_lt_of_le this (Nat.le_add_right _ _))) (Nat.ne_of_lt (Nat.lt_of_lt_of_le this (Nat.le_add_right _ _))) (Nat.ne_of_lt this) (Nat.ne_of_lt (Nat.lt_of_lt_of_le this (Nat.le_add_right _ _))) (k b u e)
      let refs : List V := (List.range (xs.zip ys).length).map fun j => V.ref (S + 1 + j)
      let H2 : Hp := fun b => if b = S then some (.lst refs) else match (if S + 1 ≤ b then (xs.zip ys)[b - (S + 1)]? else none) with | some p => some (.tup [p.1,p.2]) | none => H1 b
      have old : ∀ b,b < n → H2 b = H1 b := fun b hb => by
        have h1 : b ≠ S := Nat.ne_of_lt (Nat.lt_trans hb lz0)
        have h2 : ¬ S + 1 ≤ b := Nat.not_le_of_lt (Nat.lt_trans hb (Nat.lt_succ_of_lt lz0))
        show (if b = S then _ else _) = _
        rw [if_neg h1,if_neg h2]
      have ext : ∀ b o,H1 b = some o → H2 b = some o := fun b o e => by
        obtain ⟨ob,e'⟩ := (I1.hok b o e).obj
        rw [old b (up b ob e')]; exact e
      have hpair : ∀ j p,(xs.zip ys)[j]? = some p → H2 (S + 1 + j) = some (.tup [p.1,p.2]) := fun j p e => by
        show (if S + 1 + j = S then _ else _) = _
        rw [if_neg (by omega),if_pos (by omega),show S + 1 + j - (S + 1) = j by omega,e]
      have hlst : H2 S = some (.lst refs) := by show (if S = S then _ else _) = _; rw [if_pos rfl]
      have fresh : ∀ b,n ≤ b → H1 b = none := fun b hb => I1.hok.fresh (hn ▸ hb)
      refine ⟨.ref S,H2,I1.JDm (h' := h2) (d' := s1.drawn) (t' := tk) k2 (hn ▸ old) ext fun b o e e' => ?_,rfl,q S (S + 1) H2 (fresh S (Nat.le_of_lt lz0)) ext hlst hpair⟩
      by_cases hb : b = S
      · subst hb
        rw [hlst] at e
        cases e
        refine ⟨?_,(List.range (xs.zip ys).length).map (fun j => Value.ref (b + 1 + j)),c',?_,hS⟩
        · show ((List.range (xs.zip ys).length).map _).length ≤ _
          rw [List.length_map,List.length_range]; exact Nat.le_trans hl (by decide)
        · show Vals ((List.range (xs.zip ys).length).map _) _
          generalize List.range (xs.zip ys).length = r
          induction r with
          | nil => exact .nil
          | cons j r ih => exact .cons rfl ih
      · by_cases hb2 : S + 1 ≤ b
        · obtain ⟨j,rfl⟩ : ∃ j,b = S + 1 + j := ⟨b - (S + 1),(Nat.add_sub_cancel' hb2).symm⟩
          cases hz : (xs.zip ys)[j]? with
          | none =>
            have : H2 (S + 1 + j) = H1 (S + 1 + j) := by
              show (if S + 1 + j = S then _ else _) = _
              rw [if_neg hb,if_pos hb2,show S + 1 + j - (S + 1) = j by omega,hz]
            rw [this,e'] at e; cases e
          | some p =>
            rw [hpair j p hz] at e
            cases e
            obtain ⟨hj,_⟩ := List.getElem?_eq_some_iff.mp hz
            obtain ⟨x,y,r1,r2,t⟩ := hL j hj
            have z1 := List.getElem?_zip_eq_some.mp hz
            obtain ⟨u,hu,ru⟩ := rv1.get z1.1
            obtain ⟨v,hv,rv⟩ := rv2.get z1.2
            have g1 : its1[j]? = some x := by simpa using r1
            have g2 : its2[j]? = some y := by simpa using r2
            rw [hu] at g1
            rw [hv] at g2
            have g1' := Option.some.inj g1
            have g2' := Option.some.inj g2
            rw [g1'] at ru
            rw [g2'] at rv
            exact ⟨(by decide : 2 ≤ sizeLine),[x,y],.cons ru (.cons rv .nil),⟨_,t,rfl,_,rfl⟩⟩
        · have : H2 b = H1 b := by
            show (if b = S then _ else _) = _
            rw [if_neg hb,if_neg hb2]
          rw [this,e'] at e; cases e
  cases L with
  | true => exact call_zip_2 p1 p2 fun h' c1 c2 c3 c4 c5 _ k => fin h' c1 c2 c3 c4 c5 k
  | false => exact HT.Jv8 p1 p2 fun h' c1 c2 c3 c4 c5 k => fin h' c1 c2 c3 c4 c5 k
end
end L2
end
section
set_option Elab.async false
set_option maxRecDepth 10000
set_option linter.all false
namespace VS
open PySem PySem.Spec L2 PyProof.Rows
theorem Jni {Γ : Fr} {μ : Mu} {H : Hp} : ∀ {as bs : List V} {xs ys : List D} (t0 : Nat),VRs Γ μ H as xs → VRs Γ μ H bs ys → (∀ j p,(as.zip bs)[j]? = some p → H (t0 + j) = some (.tup [p.1,p.2])) → VRs Γ μ H ((List.range' t0 (as.zip bs).length).map V.ref) (zipD xs ys)
  | [],_,_,_,_,.nil,_,_ => by simp [zipD]; exact .nil
  | _ :: _,[],_,_,_,.cons _ _,.nil,_ => by simp [zipD]; exact .nil
  | a :: as,b :: bs,_,_,t0,.cons ra rs,.cons rb rt,h => by
    rw [List.zip_cons_cons,List.length_cons,List.range'_succ,List.map_cons,zipD]
    refine .cons (.tup (h 0 (a,b) rfl) (.cons ra (.cons rb .nil))) (Jni (t0 + 1) rs rt fun j p hp => ?_)
    have := h (j + 1) p (by simpa using hp)
    rw [show t0 + 1 + j = t0 + (j + 1) by omega]
    exact this
theorem Jm0 : ∀ (xs ys : List D),(zipD xs ys).length = (xs.zip ys).length
  | [],_ => by simp [zipD]
  | _ :: _,[] => by simp [zipD]
  | _ :: xs,_ :: ys => by simp [zipD,Jm0 xs ys]
def Jih (a : ASem) : ESem := fun env S => (a env S).bind fun p => match p.1 with
  | [x,y] => (listOf p.2 x).bind fun xs => (listOf p.2 y).bind fun ys => if (zipD xs ys).length ≤ 1000000 then some (.lst true (zipD xs ys),p.2) else none
  | _ => none
theorem Jlj {X : Cx} {a b : Expr} {f : ASem} {p p2 pos pos2 : Pos} (hc : X.calm = true) (ha : JA X [a,b] f) (hg : Gl X "list") (hm : X.mg "list" = none) (hg2 : Gl X "zip") (hm2 : X.mg "zip" = none) (hs : starEach [a,b] X.env = [(false,eval a X.env),(false,eval b X.env)] := by rfl) (hs2 : starEach [b] X.env = [(false,eval b X.env)] := by rfl)
    (he2 : starEach [.Call (.Name "zip" p2) [a,b] [] pos2] X.env = [(false,eval (.Call (.Name "zip" p2) [a,b] [] pos2) X.env)] := by rfl) : JE X (.Call (.Name "list" p) [.Call (.Name "zip" p2) [a,b] [] pos2] [] pos) (Jih f) :=
  ⟨PE.imp (Jqs true hc hg hm hg2 hm2 ha.pa hs hs2 he2) fun σ H Q h => by
    obtain ⟨Γ,μ,env,S,d,S',hK,R,e,q⟩ := h
    obtain ⟨⟨ds,S1⟩,e1,e⟩ := bind_some e
    dsimp only at e
    split at e
    · rename_i x y
      obtain ⟨xs,e2,e⟩ := bind_some e
      obtain ⟨ys,e3,e⟩ := bind_some e
      by_cases hl : (zipD xs ys).length ≤ 1000000
      · rw [if_pos hl] at e; cases e
        refine ⟨Γ,μ,env,S,[x,y],_,hK,R,e1,fun vs μ1 H1 x1 R1 r1 => ?_⟩
        obtain ⟨v,u,rfl,ra,rb⟩ := r1.two
        obtain ⟨pa,as,rfl,ha',rx⟩ := VR.list R1 ra e2
        obtain ⟨pb,bs,rfl,hb',ry⟩ := VR.list R1 rb e3
        refine ⟨pa,pb,as,bs,rfl,ha',hb',?_,fun l t0 H2 hn hx hl2 hp => ?_⟩
        · rw [Jm0,List.length_zip,← rx.length,← ry.length] at hl
          rw [List.length_zip]; exact hl
        · obtain ⟨R2,x2⟩ := R1.grow (show Same H1 H2 from hx)
          have hr : (List.range (as.zip bs).length).map (fun j => V.ref (t0 + j)) = (List.range' t0 (as.zip bs).length).map V.ref := by
            rw [List.range'_eq_map_range,List.map_map]; rfl
          exact q _ μ1 H2 (x1.trans x2) R2 (.lst (R1.ok hn true) (R1.dead hn) hl2 (by rw [hr]; exact Jni t0 (rx.ext x2) (ry.ext x2) hp))
      · rw [if_neg hl] at e; cases e
    · cases e⟩
theorem Jkr (a : ASem) (env : VS.Env) (S : Store) : VS.Jih a env S = (a env S).bind fun p => match p.1 with
  | [x,y] => (listOf p.2 x).bind fun xs => (listOf p.2 y).bind fun ys => if (zipD xs ys).length ≤ 1000000 then some (.lst true (zipD xs ys),p.2) else none
  | _ => none := rfl
end VS
end
section
set_option Elab.async false
set_option maxRecDepth 10000
set_option linter.all false
namespace VS
open PySem PySem.Spec L2
def oLtT (_ : Store) : D → D → Option D
  | .tup a,.tup b => (intsOf a).bind fun ns => (intsOf b).map fun ms => .bl (HT.lexLt ns ms)
  | _,_ => none
theorem Jxq {K : PySem.W.Frag} : Sem2 K (rLtT K) oLtT := by
  intro Γ μ σ H env S x y dx dy d hK R rx ry e Q q
  unfold oLtT at e
  split at e
  · rename_i a b
    obtain ⟨ns,e1,e⟩ := bind_some e
    obtain ⟨ms,e2,rfl⟩ := map_some e
    have h1 := Jdg e1
    have h2 := Jdg e2
    subst h1 h2
    cases rx with
    | @tup p xs _ hp rp =>
      cases ry with
      | @tup p2 ys _ hp2 rp2 =>
        have e3 := rp.Jnv
        have e4 := rp2.Jnv
        subst e3 e4
        exact ⟨p,p2,ns,ms,rfl,rfl,SqT.of hp,SqT.of hp2,q _ H (Same.refl H) (.bl _)⟩
  · cases e
theorem Jye {X : Cx} {k : Nat} (hr : Room k X.A) : OpR X (compareOp .Lt) (rLtT X.K) := JAv (by have := hr.un; omega)
end VS
end
section
set_option Elab.async false
set_option maxRecDepth 10000
set_option linter.all false
namespace VS
def at1 (bs : List (List St2)) (i w : Nat) : St2 := (bs.getD i []).getD w (0,0)
def inS (p : St2) (x : Int) : Bool := decide (p.1 ≤ x) && decide (x < p.2)
def filt (bs : List (List St2)) (w : Nat) (x : Int) (ns : List Nat) : List Nat := ns.filter fun i => inS (at1 bs i w) x
def steps (E : List Int) : List St2 := E.zip E.tail
def Jbx (bs : List (List St2)) (w : Nat) (ns : List Nat) : List Int := Jea (ns.map (fun i => (at1 bs i w).1) ++ ns.map (fun i => (at1 bs i w).2))
def Jbd (bs : List (List St2)) : Nat → Nat → List Nat → List (List St2 × List Nat)
  | 0,_,ns => if ns = [] then [] else [([],ns)]
  | k + 1,w,ns => if ns = [] then [] else (steps (Jbx bs w ns)).flatMap fun p => (Jbd bs k (w + 1) (filt bs w p.1 ns)).map fun c => (p :: c.1,c.2)
theorem Jhb (a b : Int) (r : List Int) : steps (a :: b :: r) = (a,b) :: steps (b :: r) := rfl
theorem Jgr : ∀ {E : List Int},E.Pairwise (· < ·) → ∀ p ∈ steps E,p.1 < p.2 ∧ p.1 ∈ E ∧ p.2 ∈ E ∧ ∀ e ∈ E,e ≤ p.1 ∨ p.2 ≤ e
  | [],_,p,h => by simp [steps] at h
  | [a],_,p,h => by simp [steps] at h
  | a :: b :: r,hp,p,h => by
    have hab := (List.pairwise_cons.mp hp).1
    have ht := (List.pairwise_cons.mp hp).2
    rw [Jhb] at h
    rcases List.mem_cons.mp h with z | z
    · subst z
      refine ⟨hab b List.mem_cons_self,by simp,by simp,fun e he => ?_⟩
      rcases List.mem_cons.mp he with q | q
      · left; show e ≤ a; omega
      · right
        show b ≤ e
        rcases List.mem_cons.mp q with q | q
        · omega
        · exact Int.le_of_lt ((List.pairwise_cons.mp ht).1 e q)
    · obtain ⟨h1,h2,h3,h4⟩ := Jgr ht p z
      refine ⟨h1,List.mem_cons_of_mem _ h2,List.mem_cons_of_mem _ h3,fun e he => ?_⟩
      rcases List.mem_cons.mp he with q | q
      · left; rw [q]; exact Int.le_of_lt (hab _ h2)
      · exact h4 e q
theorem Jh6 {ns : List Int} {x : Int} : x ∈ Jea ns ↔ x ∈ ns := (List.mergeSort_perm _ _).mem_iff.trans ((SetP.Jhd ns).2.2 x)
theorem Je5 (ns : List Int) : (Jea ns).Pairwise (· < ·) := by
  obtain ⟨o1,o2,o3⟩ := SetP.Jhd ns
  have hp : (Jea ns).Perm (SetP.once ns) := List.mergeSort_perm _ _
  have hs : (Jea ns).Pairwise (· ≤ ·) := by
    have := List.pairwise_mergeSort (le := fun a b : Int => decide (a ≤ b)) (by intro a b c h1 h2; simp at *; omega) (by intro a b; simp; omega) (SetP.once ns)
    exact this.imp fun h => by simpa using h
  exact (hs.and (hp.nodup_iff.mpr o1)).imp fun ⟨h,n⟩ => by omega
theorem Jgs (ns : List Int) : (Jea ns).length ≤ ns.length := by
  obtain ⟨o1,o2,o3⟩ := SetP.Jhd ns
  have hp : (Jea ns).Perm (SetP.once ns) := List.mergeSort_perm _ _
  rw [hp.length_eq]; omega
theorem Jo7 {p : St2} {x : Int} : inS p x = true ↔ p.1 ≤ x ∧ x < p.2 := by simp [inS]
theorem Jn2 {bs : List (List St2)} {w : Nat} {ns : List Nat} {E : List Int} (hp : E.Pairwise (· < ·)) (hE : ∀ i ∈ ns,(at1 bs i w).1 ∈ E ∧ (at1 bs i w).2 ∈ E) : ∀ p ∈ steps E,∀ x,p.1 ≤ x → x < p.2 → filt bs w x ns = filt bs w p.1 ns := fun p h x h1 h2 => by
  obtain ⟨g1,g2,g3,g4⟩ := Jgr hp p h
  unfold filt
  refine List.filter_congr fun i hi => ?_
  rw [Bool.eq_iff_iff,Jo7,Jo7]
  have a1 := g4 _ (hE i hi).1
  have a2 := g4 _ (hE i hi).2
  omega
def Wide (bs : List (List St2)) (A : Int) (N : Nat) (w k : Nat) (ns : List Nat) : Prop := ∀ i ∈ ns,∀ v,w ≤ v → v < w + k → (at1 bs i v).1 < (at1 bs i v).2 ∧ A ≤ (at1 bs i v).1 ∧ (at1 bs i v).2 ≤ A + N
theorem Wide.sub {bs : List (List St2)} {A : Int} {N w k : Nat} {ns ms : List Nat} (h : Wide bs A N w (k + 1) ns) (hs : ∀ i ∈ ms,i ∈ ns) : Wide bs A N (w + 1) k ms := fun i hi v h1 h2 => h i (hs i hi) v (by omega) (by omega)
theorem Ji2 {bs : List (List St2)} {w : Nat} {ns : List Nat} : ∀ i ∈ ns,(at1 bs i w).1 ∈ Jbx bs w ns ∧ (at1 bs i w).2 ∈ Jbx bs w ns := fun i hi =>
  ⟨Jh6.mpr (List.mem_append_left _ (List.mem_map_of_mem hi)),Jh6.mpr (List.mem_append_right _ (List.mem_map_of_mem hi))⟩
theorem Js8 {bs : List (List St2)} {w : Nat} {ns : List Nat} {e : Int} (h : e ∈ Jbx bs w ns) : ∃ i ∈ ns,e = (at1 bs i w).1 ∨ e = (at1 bs i w).2 := by
  rcases List.mem_append.mp (Jh6.mp h) with z | z
  · obtain ⟨i,hi,e⟩ := List.mem_map.mp z; exact ⟨i,hi,.inl e.symm⟩
  · obtain ⟨i,hi,e⟩ := List.mem_map.mp z; exact ⟨i,hi,.inr e.symm⟩
def Jeo (bs : List (List St2)) : Nat → Nat → List (List St2)
  | 0,_ => [[]]
  | k + 1,w => (steps (Jbx bs w (List.range bs.length))).flatMap fun p => (Jeo bs k (w + 1)).map (p :: ·)
def Jiy (bs : List (List St2)) : Nat → List Int → List Nat → List Nat
  | _,[],ns => ns
  | w,x :: xs,ns => Jiy bs (w + 1) xs (filt bs w x ns)
def lows (c : List St2) : List Int := c.map fun p => p.1
def lawC (bs : List (List St2)) (w : Nat) (ns : List Nat) (cs : List (List St2)) : List (List St2 × List Nat) := cs.map fun c => (c,Jiy bs w (lows c) ns)
end VS
end
section
set_option Elab.async false
set_option maxRecDepth 10000
set_option linter.all false
namespace VS
open HT
theorem Jss : ∀ a : List Int,lexLt a a = false
  | [] => rfl
  | x :: xs => by rw [Jdv,if_pos rfl]; exact Jss xs
theorem Jp6 : ∀ {a b : List Int},lexLt a b = false → lexLt b a = false → a = b
  | [],[],_,_ => rfl
  | [],_ :: _,h,_ => by cases h
  | _ :: _,[],_,h => by cases h
  | x :: xs,y :: ys,h1,h2 => by
    rw [Jdv] at h1 h2
    by_cases e : x = y
    · subst e
      rw [if_pos rfl] at h1 h2
      rw [Jp6 h1 h2]
    · rw [if_neg e,decide_eq_false_iff_not] at h1
      rw [if_neg (Ne.symm e),decide_eq_false_iff_not] at h2
      omega
theorem lex_trans : ∀ {a b c : List Int},lexLt a b = false → lexLt b c = false → lexLt a c = false
  | [],[],_,_,h => h
  | [],_ :: _,_,h,_ => by cases h
  | _ :: _,_,[],_,_ => rfl
  | _ :: _,[],_ :: _,_,h => by cases h
  | x :: xs,y :: ys,z :: zs,h1,h2 => by
    rw [Jdv] at h1 h2 ⊢
    by_cases e : x = y
    · subst e
      rw [if_pos rfl] at h1
      by_cases e2 : x = z
      · rw [if_pos e2] at h2 ⊢; exact lex_trans h1 h2
      · rw [if_neg e2] at h2 ⊢; exact h2
    · rw [if_neg e,decide_eq_false_iff_not] at h1
      by_cases e2 : y = z
      · subst e2
        rw [if_neg e,decide_eq_false_iff_not]; exact h1
      · rw [if_neg e2,decide_eq_false_iff_not] at h2
        rw [if_neg (by omega),decide_eq_false_iff_not]; omega
theorem Jp7 {a b : List Int} (h : lexLt a b = true) : lexLt b a = false := by
  cases e : lexLt b a with
  | false => rfl
  | true =>
    have h1 : ∀ {a b : List Int},lexLt a b = true → lexLt b a = true → False := by
      intro a
      induction a with
      | nil => intro b h h'; cases b <;> cases h'
      | cons x xs ih =>
        intro b h h'
        cases b with
        | nil => cases h
        | cons y ys =>
          rw [Jdv] at h h'
          by_cases e : x = y
          · subst e
            rw [if_pos rfl] at h h'
            exact ih h h'
          · rw [if_neg e,decide_eq_true_eq] at h
            rw [if_neg (Ne.symm e),decide_eq_true_eq] at h'
            omega
    exact (h1 h e).elim
abbrev Bt := Nat × List Int
def Jfj (a b : Bt) : Prop := a.1 < b.1 ∨ (a.1 = b.1 ∧ lexLt a.2 b.2 = false)
theorem Jfj.refl (a : Bt) : Jfj a a := .inr ⟨rfl,Jss _⟩
theorem Jfj.trans {a b c : Bt} (h : Jfj a b) (h' : Jfj b c) : Jfj a c := by
  rcases h with h | ⟨h1,h2⟩
  · rcases h' with h' | ⟨h3,_⟩
    · exact .inl (by omega)
    · exact .inl (by omega)
  · rcases h' with h' | ⟨h3,h4⟩
    · exact .inl (by omega)
    · exact .inr ⟨by omega,lex_trans h2 h4⟩
theorem Jfj.same {a b : Bt} (h : Jfj a b) (h' : Jfj b a) : a = b := by
  obtain ⟨a1,a2⟩ := a
  obtain ⟨b1,b2⟩ := b
  rcases h with h | ⟨h1,h2⟩
  · rcases h' with h' | ⟨h3,_⟩ <;> simp only at * <;> omega
  · rcases h' with h' | ⟨h3,h4⟩
    · simp only at *; omega
    · simp only at *; rw [h1,Jp6 h2 h4]
def Jf1 (o : Option Bt) (e : Bt) : Option Bt := match o with
  | none => some e
  | some b => if b.1 < e.1 ∨ (e.1 = b.1 ∧ lexLt e.2 b.2 = true) then some e else some b
def Jh5 (o : Option Bt) (e : Bt) : Option Bt := match o with
  | none => some e
  | some b => if b.1 < e.1 then some e else some b
theorem Jk9 (o : Option Bt) (e : Bt) : ∃ b,Jf1 o e = some b ∧ Jfj e b ∧ (∀ a,o = some a → Jfj a b) ∧ (b = e ∨ o = some b) := by
  cases o with
  | none => exact ⟨e,rfl,.refl e,(fun a h => by cases h),.inl rfl⟩
  | some a =>
    unfold Jf1
    by_cases h : a.1 < e.1 ∨ (e.1 = a.1 ∧ lexLt e.2 a.2 = true)
    · refine ⟨e,if_pos h,.refl e,fun a' h' => ?_,.inl rfl⟩
      cases h'
      rcases h with h | ⟨h,h2⟩
      · exact .inl h
      · exact .inr ⟨h.symm,Jp7 h2⟩
    · refine ⟨a,if_neg h,?_,fun a' h' => by cases h'; exact .refl a,.inr rfl⟩
      have h1 : ¬ a.1 < e.1 := fun z => h (.inl z)
      by_cases q : e.1 = a.1
      · exact .inr ⟨q,by cases z : lexLt e.2 a.2 with | false => rfl | true => exact absurd (.inr ⟨q,z⟩) h⟩
      · exact .inl (by omega)
theorem Jhg : ∀ (l : List Bt) (o : Option Bt),(l = [] ∧ o = none) ∨ ∃ b,l.foldl Jf1 o = some b ∧ (∀ e ∈ l,Jfj e b) ∧ (∀ a,o = some a → Jfj a b) ∧ (b ∈ l ∨ o = some b)
  | [],none => .inl ⟨rfl,rfl⟩
  | [],some a => .inr ⟨a,rfl,(fun e h => by cases h),(fun a' h => by cases h; exact .refl a),.inr rfl⟩
  | e :: r,o => by
    obtain ⟨b,h1,h2,h3,h4⟩ := Jk9 o e
    rcases Jhg r (Jf1 o e) with ⟨_,z⟩ | ⟨c,g1,g2,g3,g4⟩
    · rw [h1] at z; cases z
    · have hb := g3 b h1
      refine .inr ⟨c,g1,fun x hx => ?_,fun a ha => (h3 a ha).trans hb,?_⟩
      · rcases List.mem_cons.mp hx with q | q
        · rw [q]; exact h2.trans hb
        · exact g2 x q
      · rcases g4 with q | q
        · exact .inl (List.mem_cons_of_mem _ q)
        · rw [h1] at q
          cases q
          rcases h4 with q | q
          · exact .inl (by rw [q]; exact List.mem_cons_self)
          · exact .inr q
theorem Jts {l m : List Bt} (h1 : ∀ a ∈ l,a ∈ m) (h2 : ∀ a ∈ m,∃ b ∈ l,Jfj a b) : l.foldl Jf1 none = m.foldl Jf1 none := by
  rcases Jhg l none with ⟨z,_⟩ | ⟨b,e1,e2,_,e4⟩
  · subst z
    have : m = [] := by
      cases m with
      | nil => rfl
      | cons a r => obtain ⟨b,hb,_⟩ := h2 a List.mem_cons_self; cases hb
    rw [this]
  · have hb : b ∈ l := e4.resolve_right (fun z => by cases z)
    rcases Jhg m none with ⟨z,_⟩ | ⟨c,g1,g2,_,g4⟩
    · have := h1 b hb; rw [z] at this; cases this
    · have hc : c ∈ m := g4.resolve_right (fun z => by cases z)
      obtain ⟨d,hd,q⟩ := h2 c hc
      rw [e1,g1,Jfj.same (g2 b (h1 b hb)) (q.trans (e2 d hd))]
theorem Jn0 : ∀ (l : List Bt) (o : Option Bt),l.Pairwise (fun a b => lexLt a.2 b.2 = true) → (∀ a,o = some a → ∀ e ∈ l,lexLt a.2 e.2 = true) → l.foldl Jh5 o = l.foldl Jf1 o
  | [],_,_,_ => rfl
  | e :: r,o,hp,ho => by
    obtain ⟨p1,p2⟩ := List.pairwise_cons.mp hp
    have : Jh5 o e = Jf1 o e := by
      cases o with
      | none => rfl
      | some a =>
        have := Jp7 (ho a rfl e List.mem_cons_self)
        unfold Jh5 Jf1
        simp only [this,and_false,or_false,Bool.false_eq_true]
    rw [List.foldl_cons,List.foldl_cons,this]
    refine Jn0 r _ p2 fun a ha x hx => ?_
    obtain ⟨b,h1,_,_,h4⟩ := Jk9 o e
    rw [h1] at ha
    cases ha
    rcases h4 with q | q
    · rw [q]; exact p1 x hx
    · exact ho a q x (List.mem_cons_of_mem _ hx)
theorem Jhr : ∀ {E : List Int} {x : Int},(∃ a ∈ E,a ≤ x) → (∃ b ∈ E,x < b) → ∀ (_ : E.Pairwise (· < ·)),∃ p ∈ steps E,p.1 ≤ x ∧ x < p.2
  | [],_,⟨a,h,_⟩,_,_ => by cases h
  | [c],x,⟨a,h,h1⟩,⟨b,h',h2⟩,_ => by
    have e1 : a = c := by simpa using h
    have e2 : b = c := by simpa using h'
    omega
  | c :: d :: r,x,⟨a,h,h1⟩,⟨b,h',h2⟩,hp => by
    obtain ⟨p1,p2⟩ := List.pairwise_cons.mp hp
    by_cases hd : d ≤ x
    · have hb : b ∈ d :: r := by
        rcases List.mem_cons.mp h' with q | q
        · have := p1 d List.mem_cons_self; omega
        · exact q
      obtain ⟨p,q1,q2⟩ := Jhr (E := d :: r) ⟨d,List.mem_cons_self,hd⟩ ⟨b,hb,h2⟩ p2
      exact ⟨p,by rw [Jhb]; exact List.mem_cons_of_mem _ q1,q2⟩
    · have hc : c ≤ x := by
        rcases List.mem_cons.mp h with q | q
        · omega
        · have := p1 a q; omega
      exact ⟨(c,d),by rw [Jhb]; exact List.mem_cons_self,hc,by show x < d; omega⟩
theorem Jk8 : ∀ {E : List Int},E.Pairwise (· < ·) → (steps E).Pairwise (fun p q => p.1 < q.1)
  | [],_ => by simp [steps]
  | [a],_ => by simp [steps]
  | a :: b :: r,hp => by
    obtain ⟨p1,p2⟩ := List.pairwise_cons.mp hp
    rw [Jhb]
    exact List.pairwise_cons.mpr ⟨fun q hq => p1 _ (Jgr p2 q hq).2.1,Jk8 p2⟩
theorem Jn1 (bs : List (List St2)) : ∀ (s : List Int) (w : Nat),Jiy bs w s [] = []
  | [],_ => rfl
  | x :: s,w => by rw [Jiy]; exact Jn1 bs s (w + 1)
theorem Jlv {bs : List (List St2)} : ∀ (k w : Nat) (ns : List Nat),∀ c ∈ Jbd bs k w ns,c.2 = Jiy bs w (lows c.1) ns ∧ c.2 ≠ []
  | 0,w,ns,c,h => by
    rw [Jbd] at h
    split at h
    · simp at h
    · rename_i hn
      have : c = ([],ns) := by simpa using h
      rw [this]; exact ⟨rfl,hn⟩
  | k + 1,w,ns,c,h => by
    rw [Jbd] at h
    split at h
    · simp at h
    · obtain ⟨p,h1,h2⟩ := List.mem_flatMap.mp h
      obtain ⟨d,h3,rfl⟩ := List.mem_map.mp h2
      exact Jlv k (w + 1) _ d h3
theorem Jlu {bs : List (List St2)} : ∀ (k w : Nat) (ns : List Nat),(Jbd bs k w ns).Pairwise (fun c d => lexLt (lows c.1) (lows d.1) = true)
  | 0,w,ns => by
    rw [Jbd]
    split <;> simp
  | k + 1,w,ns => by
    rw [Jbd]
    split
    · simp
    · refine List.pairwise_flatMap.mpr ⟨fun p _ => ?_,(Jk8 (Je5 _)).imp fun {p q} hpq c hc d hd => ?_⟩
      · refine List.pairwise_map.mpr ((Jlu k (w + 1) _).imp fun {c d} h => ?_)
        show lexLt (p.1 :: lows c.1) (p.1 :: lows d.1) = true
        rw [Jdv,if_pos rfl]; exact h
      · obtain ⟨c',_,rfl⟩ := List.mem_map.mp hc
        obtain ⟨d',_,rfl⟩ := List.mem_map.mp hd
        show lexLt (p.1 :: lows c'.1) (q.1 :: lows d'.1) = true
        rw [Jdv,if_neg (by omega),decide_eq_true_eq]; exact hpq
theorem Jlq {bs : List (List St2)} {w : Nat} {ns ms : List Nat} (h : ∀ i ∈ ns,i ∈ ms) {e : Int} (he : e ∈ Jbx bs w ns) : e ∈ Jbx bs w ms := by
  obtain ⟨i,hi,q⟩ := Js8 he
  have := Ji2 (bs := bs) (w := w) i (h i hi)
  rcases q with q | q <;> rw [q]
  · exact this.1
  · exact this.2
theorem Jji {bs : List (List St2)} : ∀ (k w : Nat) (ns : List Nat),(∀ i ∈ ns,i ∈ List.range bs.length) → ∀ c ∈ Jbd bs k w ns,∃ d ∈ Jeo bs k w,lows d = lows c.1
  | 0,w,ns,_,c,h => by
    rw [Jbd] at h
    split at h
    · simp at h
    · have : c = ([],ns) := by simpa using h
      rw [this]; exact ⟨[],by simp [Jeo],rfl⟩
  | k + 1,w,ns,hn,c,h => by
    rw [Jbd] at h
    split at h
    · simp at h
    · obtain ⟨p,h1,h2⟩ := List.mem_flatMap.mp h
      obtain ⟨c',h3,rfl⟩ := List.mem_map.mp h2
      obtain ⟨d,d1,d2⟩ := Jji k (w + 1) _ (fun i hi => hn i (List.mem_filter.mp hi).1) c' h3
      obtain ⟨s1,s2,s3,_⟩ := Jgr (Je5 _) p h1
      have e1 := Jlq hn s2
      have e2 := Jlq hn s3
      obtain ⟨q,q1,q2,q3⟩ := Jhr ⟨p.1,e1,Int.le_refl _⟩ ⟨p.2,e2,s1⟩ (Je5 _)
      obtain ⟨_,_,_,t4⟩ := Jgr (Je5 _) q q1
      have e : q.1 = p.1 := by have := t4 _ e1; omega
      refine ⟨q :: d,?_,?_⟩
      · rw [Jeo]; exact List.mem_flatMap.mpr ⟨q,q1,List.mem_map_of_mem d1⟩
      · show q.1 :: lows d = p.1 :: lows c'.1
        rw [e,d2]
theorem Jku {bs : List (List St2)} : ∀ (k w : Nat) (ns : List Nat) (d : List St2),d ∈ Jeo bs k w → Jiy bs w (lows d) ns ≠ [] → ∃ c ∈ Jbd bs k w ns,c.2 = Jiy bs w (lows d) ns ∧ lexLt (lows d) (lows c.1) = false
  | 0,w,ns,d,h,hf => by
    have : d = [] := by simpa [Jeo] using h
    subst this
    have hn : ns ≠ [] := hf
    exact ⟨([],ns),by rw [Jbd,if_neg hn]; simp,rfl,rfl⟩
  | k + 1,w,ns,d,h,hf => by
    rw [Jeo] at h
    obtain ⟨q,h1,h2⟩ := List.mem_flatMap.mp h
    obtain ⟨d',h3,rfl⟩ := List.mem_map.mp h2
    have hf' : Jiy bs (w + 1) (lows d') (filt bs w q.1 ns) ≠ [] := hf
    have hx : filt bs w q.1 ns ≠ [] := fun z => hf' (by rw [z]; exact Jn1 bs _ _)
    have hn : ns ≠ [] := fun z => hx (by rw [z]; rfl)
    obtain ⟨i,hi⟩ := List.exists_mem_of_ne_nil _ hx
    obtain ⟨i1,i2⟩ := List.mem_filter.mp hi
    rw [Jo7] at i2
    obtain ⟨m1,m2⟩ := Ji2 (bs := bs) (w := w) i i1
    obtain ⟨p,p1,p2,p3⟩ := Jhr ⟨_,m1,i2.1⟩ ⟨_,m2,i2.2⟩ (Je5 _)
    have e := Jn2 (Je5 _) Ji2 p p1 q.1 p2 p3
    obtain ⟨c',c1,c2,c3⟩ := Jku k (w + 1) (filt bs w q.1 ns) d' h3 hf'
    refine ⟨(p :: c'.1,c'.2),?_,c2,?_⟩
    · rw [Jbd,if_neg hn]
      exact List.mem_flatMap.mpr ⟨p,p1,List.mem_map.mpr ⟨c',by rw [← e]; exact c1,rfl⟩⟩
    · show lexLt (q.1 :: lows d') (p.1 :: lows c'.1) = false
      rw [Jdv]
      by_cases z : q.1 = p.1
      · rw [if_pos z]; exact c3
      · rw [if_neg z,decide_eq_false_iff_not]; omega
def bt (c : List St2 × List Nat) : Bt := (c.2.length,lows c.1)
theorem Jsl (bs : List (List St2)) (n : Nat) : ((Jbd bs n 0 (List.range bs.length)).map bt).foldl Jh5 none = (((lawC bs 0 (List.range bs.length) (Jeo bs n 0)).filter fun c => decide (c.2 ≠ [])).map bt).foldl Jf1 none := by
  rw [Jn0 _ none (List.pairwise_map.mpr (Jlu n 0 _)) (fun a h => by cases h)]
  refine Jts (fun a ha => ?_) fun a ha => ?_
  · obtain ⟨c,hc,rfl⟩ := List.mem_map.mp ha
    obtain ⟨c1,c2⟩ := Jlv n 0 _ c hc
    obtain ⟨d,d1,d2⟩ := Jji n 0 _ (fun i hi => hi) c hc
    refine List.mem_map.mpr ⟨(d,Jiy bs 0 (lows d) (List.range bs.length)),List.mem_filter.mpr ⟨List.mem_map.mpr ⟨d,d1,rfl⟩,?_⟩,?_⟩
    · rw [d2,← c1]; exact decide_eq_true c2
    · unfold bt; rw [d2,← c1]
  · obtain ⟨c,hc,rfl⟩ := List.mem_map.mp ha
    obtain ⟨h1,h2⟩ := List.mem_filter.mp hc
    obtain ⟨d,d1,rfl⟩ := List.mem_map.mp h1
    obtain ⟨c',c1,c2,c3⟩ := Jku n 0 (List.range bs.length) d d1 (of_decide_eq_true h2)
    exact ⟨bt c',List.mem_map_of_mem c1,.inr ⟨by unfold bt; rw [c2],c3⟩⟩
end VS
end
section
set_option Elab.async false
set_option maxRecDepth 10000
set_option linter.all false
namespace W23
open PySem L2 VS
noncomputable def Jln : SSem :=
  (sRet (eAnd (eCB bIsT (Jac (eVar 0) (Jac (eC (.ty "int")) aNil))) (eNot (eCB bIsT (Jac (eVar 0) (Jac (eC (.ty "bool")) aNil))))))
noncomputable def Jco : PSem := runP 1 1 Jln
noncomputable def Jlp : SSem :=
  (sRet (eAnd (Jbc Jco (Jac (eVar 0) aNil)) (eUn (oTab Bc.D3) (eVar 0))))
noncomputable def Jce : PSem := runP 1 1 Jlp
noncomputable def Jjg : SSem :=
  (sSeq (sIf (tOr (tNot (tVal (eCB bIsT (Jac (eVar 0) (Jac (eC (.ty "tuple")) aNil))))) (tVal (eOp (oEq true) (eCB bLen (Jac (eVar 0) aNil)) (eC (.int 2)))))
    (sRet (eC (.bl false)))
    sNil)
    (sRet (eAnd (Jbc Jco (Jac (eOp oIx (eVar 0) (eC (.int 0))) aNil)) (eAnd (Jbc Jco (Jac (eOp oIx (eVar 0) (eC (.int 1))) aNil)) (eOp oLt (eOp oIx (eVar 0) (eC (.int 0))) (eOp oIx (eVar 0) (eC (.int 1))))))))
noncomputable def Jc6 : PSem := runP 1 1 Jjg
noncomputable def Jkf : ASem :=
  Jcs 1 [] (iSeq (eVar 1)) (Pat.sem (.nm 0)) tYes (Jbc Jc6 (Jac (eVar 0) aNil))
noncomputable def Jqf : SSem :=
  (sSeq (sIf (tOr (tNot (tVal (Jbc Jce (Jac (eVar 0) aNil)))) (tOr (tNot (tVal (eCB bIsT (Jac (eVar 1) (Jac (eC (.ty "tuple")) aNil))))) (tVal (eOp (oEq true) (eCB bLen (Jac (eVar 1) aNil)) (eVar 0)))))
    (sRet (eC (.bl false)))
    sNil)
    (sRet (eCB bAll (Jac (eFrz Jkf) aNil))))
noncomputable def Je6 : PSem := runP 2 2 Jqf
noncomputable def Jiv : ASem :=
  Jcs 1 [1] (iSeq (eVar 2)) (Pat.sem (.nm 0)) tYes (Jbc Je6 (Jac (eVar 1) (Jac (eVar 0) aNil)))
noncomputable def Jn3 : SSem :=
  (sSeq (sIf (tOr (tNot (tVal (eCB bIsT (Jac (eVar 0) (Jac (eC (.ty "tuple")) aNil))))) (tVal (eOp (oEq true) (eCB bLen (Jac (eVar 0) aNil)) (eC (.int 2)))))
    (sRet (eC (.bl false)))
    sNil)
    (sSeq (sSet 1 (eOp oIx (eVar 0) (eC (.int 0))))
    (sSeq (sSet 2 (eOp oIx (eVar 0) (eC (.int 1))))
    (sSeq (sIf (tOr (tNot (tVal (Jbc Jce (Jac (eVar 1) aNil)))) (tOr (tNot (tVal (eCB bIsT (Jac (eVar 2) (Jac (eC (.ty "list")) aNil))))) (tVal (eOp oGt (eCB bLen (Jac (eVar 2) aNil)) (eUn (Jp1 Bc.D3) (eVar 1))))))
    (sRet (eC (.bl false)))
    sNil)
    (sRet (eCB bAll (Jac (eFrz Jiv) aNil)))))))
noncomputable def Jeb : PSem := runP 1 3 Jn3
noncomputable def Jkm : SSem :=
  (sIf (tNot (tVal (Jbc Jeb (Jac (eVar 0) aNil))))
    Jr1
    sNil)
noncomputable def Jc1 : PSem := runP 1 1 Jkm
noncomputable def Jgi : ASem :=
  Jcs 1 [1] (iSeq (eVar 0)) (Pat.sem (.nm 0)) tYes (eOp oIx (eOp oIx (eVar 0) (eVar 1)) (eC (.int 0)))
noncomputable def Jgh : ASem :=
  Jcs 1 [1] (iSeq (eVar 0)) (Pat.sem (.nm 0)) tYes (eOp oIx (eOp oIx (eVar 0) (eVar 1)) (eC (.int 1)))
noncomputable def Jjh : SSem :=
  (sRet (Jhi (eOp oAdd (eFrz Jgi) (eFrz Jgh))))
noncomputable def Jc7 : PSem := runP 2 2 Jjh
noncomputable def Jid : SSem :=
  (sSeq (sSet 2 (Jbc Jc7 (Jac (eVar 0) (Jac (eVar 1) aNil))))
    (sRet (Jih (Jac (eVar 2) (Jac (eSl oSl (eVar 2) (Jhv (eC (.int 1))) Jhw) aNil)))))
noncomputable def Jch : PSem := runP 2 3 Jid
noncomputable def Je1 (rec : PSem) : ASem :=
  Jcs 1 [0] (iSeq (eVar 1)) (Pat.sem (.nm 0)) tYes (eOp oIx (eVar 1) (eVar 0))
noncomputable def Je0 (rec : PSem) : ASem :=
  Jcs 1 [0,2,5] (iSeq (eVar 1)) (Pat.sem (.nm 0)) (tVal (Jqh oLe oLt (eOp oIx (eOp oIx (eOp oIx (eVar 1) (eVar 0)) (eVar 2)) (eC (.int 0))) (eVar 3) (eOp oIx (eOp oIx (eOp oIx (eVar 1) (eVar 0)) (eVar 2)) (eC (.int 1))))) (eVar 0)
noncomputable def Je3 (rec : PSem) : SSem :=
  (sExp (Jjr Jfe (eVar 4) (Jac (eTup (Jac (eOp oAdd (eTup (Jac (eTup (Jac (eVar 5) (Jac (eVar 6) aNil))) aNil)) (eVar 8)) (Jac (eVar 9) aNil))) aNil)))
noncomputable def Jgk (rec : PSem) : SSem :=
  sFor (iSeq (Jbc rec (Jac (eVar 0) (Jac (eVar 7) (Jac (eOp oAdd (eVar 2) (eC (.int 1))) (Jac (eVar 3) aNil)))))) (Pat.sem (.tp [(.nm 8),(.nm 9)]))
    (Je3 rec)
noncomputable def Je2 (rec : PSem) : SSem :=
  (sSeq (sSet 7 (eFrz (Je0 rec)))
    (Jgk rec))
noncomputable def Jgj (rec : PSem) : SSem :=
  sFor (iSeq (Jbc Jch (Jac (eFrz (Je1 rec)) (Jac (eVar 2) aNil)))) (Pat.sem (.tp [(.nm 5),(.nm 6)]))
    (Je2 rec)
noncomputable def Jfz (rec : PSem) : SSem :=
  (sSeq (sIf (tVal (eOp (oEq false) (eCB bLen (Jac (eVar 1) aNil)) (eC (.int 0))))
    (sRet (eFrz aNil))
    sNil)
    (sSeq (sIf (tVal (eOp (oEq false) (eVar 2) (eVar 3)))
    (sRet (eFrz (Jac (eTup (Jac (eTup aNil) (Jac (eVar 1) aNil))) aNil)))
    sNil)
    (sSeq (sSet 4 (eSto aNil))
    (sSeq (Jgj rec)
    (sRet (eVar 4))))))
noncomputable def Jau : Nat → PSem
  | 0 => fun _ => none
  | n + 1 => runP 4 10 (Jfz (Jau n))
noncomputable def Jlo : SSem :=
  (sRet (Jbc (Jau 4) (Jac (eOp oIx (eVar 0) (eC (.int 1))) (Jac (Jdx (Jac (eCB bLen (Jac (eOp oIx (eVar 0) (eC (.int 1))) aNil)) aNil)) (Jac (eC (.int 0)) (Jac (eOp oIx (eVar 0) (eC (.int 0))) aNil))))))
noncomputable def Jdd : PSem := runP 1 1 Jlo
noncomputable def Jex : ASem :=
  Jcs 2 [] (iSeq (eVar 2)) (Pat.sem (.tp [(.nm 0),(.nm 1)])) tYes (eVar 0)
noncomputable def Jey : SSem :=
  (sIf (tOr (tVal (eOp (oIsN false) (eVar 1) (eC .non))) (tVal (eOp oGt (eCB bLen (Jac (eVar 3) aNil)) (eOp oIx (eVar 1) (eC (.int 0))))))
    (sSet 1 (eTup (Jac (eCB bLen (Jac (eVar 3) aNil)) (Jac (eCB bTup (Jac (eFrz Jex) aNil)) aNil))))
    sNil)
noncomputable def Jgc : SSem :=
  sFor (iSeq (Jbc Jdd (Jac (eVar 0) aNil))) (Pat.sem (.tp [(.nm 2),(.nm 3)]))
    Jey
noncomputable def Jjf : SSem :=
  (sSeq (sExp (Jbc Jc1 (Jac (eVar 0) aNil)))
    (sSeq (sSet 1 (eC .non))
    (sSeq Jgc
    (sRet (eVar 1)))))
noncomputable def Ja3 : PSem := runP 1 4 Jjf
noncomputable def Jlm : SSem :=
  (sSeq (sIf (tVal (eOp oGe (eVar 0) (eOp oPow (eC (.int 10)) (eC (.int 18)))))
    (sRet (eFrz (Jac (eVar 0) (Jac (eOp oMod (eVar 0) (eC (.int 2147483629))) aNil))))
    sNil)
    (sRet (eFrz (Jac (eC (.int 0)) (Jac (eOp oMod (eVar 0) (eC (.int 2147483629))) aNil)))))
noncomputable def Jdc : PSem := runP 1 1 Jlm
noncomputable def Ji0 : SSem :=
  (sSeq (sIf (tVal (eOp oGt (eOp oIx (eVar 0) (eC (.int 0))) (eC (.int 0))))
    (sSeq (sSet 2 (eOp oMod (eOp oIx (eVar 0) (eC (.int 0))) (eVar 1)))
    (sSeq (Jpt (eOp oDiv (eOp oIx (eVar 0) (eC (.int 0))) (eVar 1)) (eVar 0) (eC (.int 0)))
    (sRet (eVar 2))))
    sNil)
    (sSeq (sSet 3 (eOp oMod (eOp oAdd (eOp oMul (eOp oIx (eVar 0) (eC (.int 1))) (eC (.int 48271))) (eC (.int 11))) (eC (.int 2147483647))))
    (sSeq (sSet 3 (eOp oMod (eOp oMul (eVar 3) (eVar 3)) (eC (.int 2147483587))))
    (sSeq (Jpt (eOp oMod (eOp oAdd (eOp oMul (eVar 3) (eC (.int 69621))) (eC (.int 40692))) (eC (.int 2147483629))) (eVar 0) (eC (.int 1)))
    (sRet (eOp oMod (eOp oMul (eOp oDiv (eOp oIx (eVar 0) (eC (.int 1))) (eC (.int 8))) (eOp oIx (eFrz (Jac (eC (.int 1)) (Jac (eC (.int 8191)) aNil))) (eCB bInt (Jac (eOp oGt (eVar 1) (eOp oPow (eC (.int 10)) (eC (.int 6)))) aNil)))) (eVar 1)))))))
noncomputable def Jal : MSem := runM 2 4 Ji0
noncomputable def Jgz : ASem :=
  Jcs 1 [0] (Jc5 (Jac (eOp oAdd (eC (.int 2)) (eVar 1)) aNil)) (Pat.sem (.nm 0)) tYes (eOp oSub (Jby Jal (Jac (eVar 1) (Jac (eOp oAdd (eOp oMul (eC (.int 2)) (eOp oPow (eC (.int 10)) (eC (.int 9)))) (eC (.int 1))) aNil))) (eOp oPow (eC (.int 10)) (eC (.int 9))))
noncomputable def Jei : SSem :=
  (sSeq (sSet 2 (eOp oAdd (eOp oSub (Jby Jal (Jac (eVar 0) (Jac (eOp oSub (eOp oMul (eC (.int 2)) (eOp oPow (eC (.int 10)) (eC (.int 9)))) (eC (.int 20))) aNil))) (eOp oPow (eC (.int 10)) (eC (.int 9)))) (eC (.int 10))))
    (sSeq (sSet 3 (Jby Jal (Jac (eVar 0) (Jac (eC (.int 5)) aNil))))
    (sSeq (sIf (tVal (eOp oLt (eVar 3) (eC (.int 2))))
    (sRet (eOp oIx (eFrz (Jac (Jdx (Jac (eC (.int 7)) aNil)) (Jac (Jdx (Jac (eUn oNeg (eC (.int 3))) (Jac (eC (.int 4)) aNil))) aNil))) (eVar 3)))
    sNil)
    (sSeq (sIf (tVal (eOp (oEq false) (eVar 3) (eC (.int 2))))
    (sRet (Jdx (Jac (eVar 2) (Jac (eOp oAdd (eVar 2) (eC (.int 6))) aNil))))
    sNil)
    (sSeq (sSet 4 (eFrz Jgz))
    (sSeq (sIf (tVal (eOp (oEq false) (eVar 3) (eC (.int 3))))
    (sSet 4 (eOp oAdd (eVar 4) (eFrz (Jac (eUn oNeg (eOp oPow (eC (.int 10)) (eC (.int 9)))) (Jac (eOp oPow (eC (.int 10)) (eC (.int 9))) aNil)))))
    sNil)
    (sRet (Jhi (eOp oAdd (eVar 4) (eFrz (Jac (eVar 2) (Jac (eOp oAdd (eVar 2) (eC (.int 1))) aNil))))))))))))
noncomputable def Jbs : MSem := runM 2 5 Jei
noncomputable def Jie : SSem :=
  (sSeq (sSet 2 (Jby Jal (Jac (eVar 0) (Jac (eOp oSub (eCB bLen (Jac (eVar 1) aNil)) (eC (.int 1))) aNil))))
    (sRet (eTup (Jac (eOp oIx (eVar 1) (eVar 2)) (Jac (eOp oIx (eVar 1) (eOp oAdd (eOp oAdd (eVar 2) (eC (.int 1))) (Jby Jal (Jac (eVar 0) (Jac (eOp oSub (eOp oSub (eCB bLen (Jac (eVar 1) aNil)) (eC (.int 1))) (eVar 2)) aNil))))) aNil)))))
noncomputable def Jbr : MSem := runM 2 3 Jie
noncomputable def Jhy : ASem :=
  Jcs 1 [] (iSeq (eVar 1)) (Pat.sem (.nm 0)) tYes (eTup (Jac (eOp oIx (eVar 0) (eC (.int 1))) (Jac (eOp oAdd (eOp oIx (eVar 0) (eC (.int 1))) (eC (.int 1))) aNil)))
noncomputable def Jeh : SSem :=
  (sSeq (sSet 3 (Jby Jal (Jac (eVar 0) (Jac (eC (.int 6)) aNil))))
    (sSeq (sSet 4 (Jby Jal (Jac (eVar 0) (Jac (eCB bLen (Jac (eVar 1) aNil)) aNil))))
    (sSeq (sAsg (eOp oIx (eVar 1) (eVar 4)) (Pat.sem (.tp [(.nm 5),(.nm 6)])))
    (sSeq (sIf (tVal (eOp (oEq false) (eVar 3) (eC (.int 1))))
    (sRet (eOp oAdd (eOp oAdd (eSl oSl (eVar 1) Jhw (Jhv (eVar 4))) (eTup (Jac (eTup (Jac (eVar 6) (Jac (eOp oAdd (eOp oAdd (eVar 6) (eC (.int 1))) (Jby Jal (Jac (eVar 0) (Jac (eC (.int 3)) aNil)))) aNil))) aNil))) (eSl oSl (eVar 1) (Jhv (eOp oAdd (eVar 4) (eC (.int 1)))) Jhw)))
    sNil)
    (sSeq (sIf (tVal (eOp (oEq false) (eVar 3) (eC (.int 2))))
    (sSeq (sSet 7 (eOp oAdd (eVar 5) (Jby Jal (Jac (eVar 0) (Jac (eOp oSub (eVar 6) (eVar 5)) aNil)))))
    (sRet (eOp oAdd (eOp oAdd (eSl oSl (eVar 1) Jhw (Jhv (eVar 4))) (eTup (Jac (eTup (Jac (eVar 7) (Jac (eVar 6) aNil))) aNil))) (eSl oSl (eVar 1) (Jhv (eOp oAdd (eVar 4) (eC (.int 1)))) Jhw))))
    sNil)
    (sSeq (sIf (tVal (eOp (oEq false) (eVar 3) (eC (.int 3))))
    (sRet (eOp oAdd (eOp oAdd (eSl oSl (eVar 1) Jhw (Jhv (eVar 4))) (eTup (Jac (Jby Jbr (Jac (eVar 0) (Jac (eOp oIx (eVar 2) (eVar 4)) aNil))) aNil))) (eSl oSl (eVar 1) (Jhv (eOp oAdd (eVar 4) (eC (.int 1)))) Jhw)))
    sNil)
    (sSeq (sIf (tVal (eOp (oEq false) (eVar 3) (eC (.int 4))))
    (sRet (eOp oAdd (eOp oAdd (eSl oSl (eVar 1) Jhw (Jhv (eVar 4))) (eTup (Jac (eTup (Jac (eOp oSub (eOp oSub (eVar 5) (eC (.int 1))) (Jby Jal (Jac (eVar 0) (Jac (eC (.int 3)) aNil)))) (Jac (eVar 5) aNil))) aNil))) (eSl oSl (eVar 1) (Jhv (eOp oAdd (eVar 4) (eC (.int 1)))) Jhw)))
    sNil)
    (sSeq (sIf (tVal (eOp (oEq false) (eVar 3) (eC (.int 5))))
    (sRet (eCB bTup (Jac (eFrz Jhy) aNil)))
    sNil)
    (sRet (eVar 1))))))))))
noncomputable def Jb6 : MSem := runM 3 8 Jeh
noncomputable def Jgf : ASem :=
  Jcs 1 [0,3] (Jc5 (Jac (eVar 1) aNil)) (Pat.sem (.nm 0)) tYes (Jby Jbs (Jac (eVar 1) (Jac (eVar 2) aNil)))
noncomputable def Jge : ASem :=
  Jcs 1 [0,4] (Jc5 (Jac (eVar 1) aNil)) (Pat.sem (.nm 0)) tYes (Jby Jbr (Jac (eVar 1) (Jac (eOp oIx (eVar 2) (eVar 0)) aNil)))
noncomputable def Jgd : ASem :=
  Jcs 2 [] (iSeq (eVar 8)) (Pat.sem (.tp [(.nm 0),(.nm 1)])) tYes (eCB Jtu (Jac (eCB bAbs (Jac (eVar 0) aNil)) (Jac (eCB bAbs (Jac (eVar 1) aNil)) aNil)))
noncomputable def Jgg : SSem :=
  (sSeq (sSet 8 (eCB bTup (Jac (eFrz Jge) aNil)))
    (sSeq (sIf (tAnd (tVal (eOp (oEq true) (eVar 5) (eFrz aNil))) (tVal (eOp oLt (Jby Jal (Jac (eVar 0) (Jac (eC (.int 3)) aNil))) (eVar 6))))
    (sSet 8 (Jby Jb6 (Jac (eVar 0) (Jac (eOp oIx (eVar 5) (Jby Jal (Jac (eVar 0) (Jac (eCB bLen (Jac (eVar 5) aNil)) aNil)))) (Jac (eVar 4) aNil)))))
    sNil)
    (sIf (tVal (eOp oLe (eCB Jq9 (Jac (eFrz Jgd) aNil)) (eOp oPow (eC (.int 10)) (eC (.int 9)))))
    (sExp (Jjr Jfe (eVar 5) (Jac (eVar 8) aNil)))
    sNil)))
noncomputable def Jhz : SSem :=
  sFor (Jc5 (Jac (eVar 3) aNil)) (Pat.sem (.nm 7))
    Jgg
noncomputable def Jiz : SSem :=
  (sSeq (sSet 3 (eOp oIx (eFrz (Jac (Jby Jal (Jac (eVar 0) (Jac (eOp oAdd (eCB Jtt (Jac (eVar 2) (Jac (eC (.int 4)) aNil))) (eC (.int 1))) aNil))) (Jac (Jby Jal (Jac (eVar 0) (Jac (eOp oAdd (eVar 2) (eC (.int 1))) aNil))) (Jac (eVar 2) aNil)))) (Jby Jal (Jac (eVar 0) (Jac (eC (.int 3)) aNil)))))
    (sSeq (sSet 4 (eFrz Jgf))
    (sSeq (sSet 5 (eSto aNil))
    (sSeq (sSet 6 (Jby Jal (Jac (eVar 0) (Jac (eC (.int 3)) aNil))))
    (sSeq Jhz
    (sRet (eTup (Jac (eVar 1) (Jac (eVar 5) aNil)))))))))
noncomputable def Jcn : MSem := runM 3 9 Jiz
noncomputable def Jd6 : SSem :=
  (sSeq (sSet 1 (eOp oAdd (eC (.int 1)) (Jby Jal (Jac (eVar 0) (Jac (eC (.int 3)) aNil)))))
    (sRet (Jby Jcn (Jac (eVar 0) (Jac (eVar 1) (Jac (eOp oIx (eFrz (Jac (eC (.int 0)) (Jac (eC (.int 20)) (Jac (eC (.int 10)) (Jac (eC (.int 6)) aNil))))) (eVar 1)) aNil))))))
noncomputable def Jbe : MSem := runM 1 2 Jd6
noncomputable def Jdw : SSem :=
  (sIf (tOr (tVal (eOp oLt (eOp oIx (eVar 1) (eVar 2)) (eOp oIx (eOp oIx (eVar 0) (eVar 2)) (eC (.int 0))))) (tVal (eOp oGe (eOp oIx (eVar 1) (eVar 2)) (eOp oIx (eOp oIx (eVar 0) (eVar 2)) (eC (.int 1))))))
    (sRet (eC (.bl false)))
    sNil)
noncomputable def Jem : SSem :=
  sFor (Jc5 (Jac (eCB bLen (Jac (eVar 0) aNil)) aNil)) (Pat.sem (.nm 2))
    Jdw
noncomputable def Jko : SSem :=
  (sSeq Jem
    (sRet (eC (.bl true))))
noncomputable def Jcm : PSem := runP 2 3 Jko
noncomputable def Jfu : ASem :=
  Jcs 1 [4] (iSeq (eVar 2)) (Pat.sem (.nm 0)) tYes (eOp oIx (eOp oIx (eVar 0) (eVar 1)) (eC (.int 0)))
noncomputable def Jft : ASem :=
  Jcs 1 [4] (iSeq (eVar 2)) (Pat.sem (.nm 0)) tYes (eOp oIx (eOp oIx (eVar 0) (eVar 1)) (eC (.int 1)))
noncomputable def Jfs : ASem :=
  Jcs 1 [8] (iSeq (eVar 6)) (Pat.sem (.nm 0)) tYes (eOp oAdd (eVar 1) (eTup (Jac (eVar 0) aNil)))
noncomputable def Jg4 : SSem :=
  (sExp (Jjr Jj8 (eVar 7) (Jac (eFrz Jfs) aNil)))
noncomputable def Jg2 : SSem :=
  sFor (iSeq (eVar 3)) (Pat.sem (.nm 8))
    Jg4
noncomputable def Jfw : SSem :=
  (sSeq (sSet 5 (Jhi (eOp oAdd (eFrz Jfu) (eFrz Jft))))
    (sSeq (sSet 6 (Jih (Jac (eVar 5) (Jac (eSl oSl (eVar 5) (Jhv (eC (.int 1))) Jhw) aNil))))
    (sSeq (sSet 7 (eSto aNil))
    (sSeq Jg2
    (sSet 3 (eVar 7))))))
noncomputable def Jg1 : SSem :=
  sFor (Jc5 (Jac (eVar 1) aNil)) (Pat.sem (.nm 4))
    Jfw
noncomputable def Jfr : ASem :=
  Jcs 2 [] (iSeq (eVar 10)) (Pat.sem (.tp [(.nm 0),(.nm 1)])) tYes (eVar 0)
noncomputable def Jfq : ASem :=
  Jcs 2 [11] (Jqb (Jac (eVar 2) aNil)) (Pat.sem (.tp [(.nm 0),(.nm 1)])) (tVal (Jbc Jcm (Jac (eVar 1) (Jac (eVar 2) aNil)))) (eVar 0)
noncomputable def Jfv : SSem :=
  (sSeq (sSet 11 (eFrz Jfr))
    (sExp (Jjr Jfe (eVar 9) (Jac (eTup (Jac (eVar 10) (Jac (eFrz Jfq) aNil))) aNil))))
noncomputable def Jg0 : SSem :=
  sFor (iSeq (eVar 3)) (Pat.sem (.nm 10))
    Jfv
noncomputable def Jg3 : ASem :=
  Jcs 2 [] (iSeq (eVar 9)) (Pat.sem (.tp [(.nm 0),(.nm 1)])) (tVal (eOp (oEq true) (eVar 1) (eFrz aNil))) (eTup (Jac (eVar 0) (Jac (eVar 1) aNil)))
noncomputable def Jkp : SSem :=
  (sSeq (sAsg (eVar 0) (Pat.sem (.tp [(.nm 1),(.nm 2)])))
    (sSeq (sSet 3 (eFrz (Jac (eTup aNil) aNil)))
    (sSeq Jg1
    (sSeq (sSet 9 (eSto aNil))
    (sSeq Jg0
    (sRet (eFrz Jg3)))))))
noncomputable def Jc2 : PSem := runP 1 12 Jkp
noncomputable def Jhx (rec : PSem) : ASem :=
  Jcs 1 [0,1] (Jc5 (Jac (eCB bLen (Jac (eVar 1) aNil)) aNil)) (Pat.sem (.nm 0)) (tNot (tVal (Jbc rec (Jac (eOp oIx (eVar 1) (eVar 0)) (Jac (eOp oIx (eVar 2) (eVar 0)) aNil))))) (eVar 0)
noncomputable def Jfc (rec : PSem) : SSem :=
  (sSeq (sIf (tVal (eCB bIsT (Jac (eVar 1) (Jac (eTup (Jac (eC (.ty "tuple")) (Jac (eC (.ty "list")) aNil))) aNil))))
    (sSeq (sIf (tOr (tVal (eOp (oEq true) (eCB bIsT (Jac (eVar 0) (Jac (eC (.ty "tuple")) aNil))) (eCB bIsT (Jac (eVar 1) (Jac (eC (.ty "tuple")) aNil))))) (tVal (eOp (oEq true) (eCB bIsT (Jac (eVar 0) (Jac (eC (.ty "list")) aNil))) (eCB bIsT (Jac (eVar 1) (Jac (eC (.ty "list")) aNil))))))
    (sRet (eC (.bl false)))
    sNil)
    (sSeq (sIf (tVal (eOp (oEq true) (eCB bLen (Jac (eVar 0) aNil)) (eCB bLen (Jac (eVar 1) aNil))))
    (sRet (eC (.bl false)))
    sNil)
    (sRet (eOp (oEq false) (eFrz (Jhx rec)) (eFrz aNil)))))
    sNil)
    (sSeq (sIf (tOr (tVal (eOp (oIsN false) (eVar 1) (eC .non))) (tVal (eCB bIsT (Jac (eVar 1) (Jac (eC (.ty "str")) aNil)))))
    (sRet (eOp (oEq false) (eVar 0) (eVar 1)))
    sNil)
    (sRet (eAnd (eCB bIsT (Jac (eVar 0) (Jac (eC (.ty "int")) aNil))) (eAnd (eNot (eCB bIsT (Jac (eVar 0) (Jac (eC (.ty "bool")) aNil)))) (eOp (oEq false) (eVar 0) (eVar 1)))))))
noncomputable def Jar : Nat → PSem
  | 0 => fun _ => none
  | n + 1 => runP 2 2 (Jfc (Jar n))
noncomputable def Jfn : ASem :=
  Jcs 2 [] (iSeq (eVar 2)) (Pat.sem (.tp [(.nm 0),(.nm 1)])) tYes (eVar 0)
noncomputable def Jfp : SSem :=
  (sSeq (sSet 4 (eCB bTup (Jac (eFrz Jfn) aNil)))
    (sIf (tOr (tVal (eOp (oIsN false) (eVar 1) (eC .non))) (tOr (tVal (eOp oGt (eCB bLen (Jac (eVar 3) aNil)) (eOp oIx (eVar 1) (eC (.int 0))))) (tAnd (tVal (eOp (oEq false) (eCB bLen (Jac (eVar 3) aNil)) (eOp oIx (eVar 1) (eC (.int 0))))) (tVal (eOp oLtT (eVar 4) (eOp oIx (eVar 1) (eC (.int 1))))))))
    (sSet 1 (eTup (Jac (eCB bLen (Jac (eVar 3) aNil)) (Jac (eVar 4) aNil))))
    sNil))
noncomputable def Jgy : SSem :=
  sFor (iSeq (Jbc Jc2 (Jac (eVar 0) aNil))) (Pat.sem (.tp [(.nm 2),(.nm 3)]))
    Jfp
noncomputable def Jfo : SSem :=
  (sIf (tOr (tNot (tVal (Jbc (Jar 4) (Jac (Jbc Ja3 (Jac (eVar 5) aNil)) (Jac (eVar 1) aNil))))) (tVal (eOp (oEq true) (eVar 5) (eVar 0))))
    (sRet (eC (.bl false)))
    sNil)
noncomputable def Jgx : SSem :=
  sFor (Jc5 (Jac (eC (.int 2)) aNil)) (Pat.sem (.nm 6))
    Jfo
noncomputable def Jkn : SSem :=
  (sSeq (sSet 1 (eC .non))
    (sSeq Jgy
    (sSeq (sSet 5 (eTup (Jac (eOp oIx (eVar 0) (eC (.int 0))) (Jac (Jtb nList (Jac (eOp oIx (eVar 0) (eC (.int 1))) aNil)) aNil))))
    (sSeq Jgx
    (sRet (eC (.bl true)))))))
noncomputable def Jcc : PSem := runP 1 7 Jkn
noncomputable def Jp9 : SSem :=
  (sSeq (sSet 2 (Jn8 Jdc (Jac (eVar 1) aNil)))
    (sSeq (sSet 3 (Jn9 Jbe (Jac (eVar 2) aNil)))
    (sSeq (sIf (tNot (tVal (Jbc Jcc (Jac (eVar 3) aNil))))
    (sRet (eC (.bl false)))
    sNil)
    (sIf (tVal (eOp (oEq true) (eOp oIx (eVar 3) (eC (.int 1))) (eFrz aNil)))
    (sSeq (sExp (Jjr Jle (eOp oIx (eVar 3) (eC (.int 1))) (Jac (Jby Jal (Jac (eVar 2) (Jac (eCB bLen (Jac (eOp oIx (eVar 3) (eC (.int 1))) aNil)) aNil))) aNil)))
    (sIf (tNot (tVal (Jbc Jcc (Jac (eVar 3) aNil))))
    (sRet (eC (.bl false)))
    sNil))
    sNil))))
noncomputable def Jsv : SSem :=
  sFor (iSeq (eOp oAdd (eFrz (Jac (eC (.int 0)) (Jac (eC (.int 5)) aNil))) (eSl oSl (eVar 0) Jhw (Jhv (eC (.int 8)))))) (Pat.sem (.nm 1))
    Jp9
noncomputable def JBq : SSem :=
  (sSeq Jsv
    (sRet (eAnd (eOp (oEq false) (Jbc Ja3 (Jac (eTup (Jac (eC (.int 1)) (Jac (eFrz (Jac (eTup (Jac (eTup (Jac (eC (.int 0)) (Jac (eC (.int 3)) aNil))) aNil)) (Jac (eTup (Jac (eTup (Jac (eC (.int 2)) (Jac (eC (.int 7)) aNil))) aNil)) aNil))) aNil))) aNil)) (eTup (Jac (eC (.int 2)) (Jac (eTup (Jac (eC (.int 2)) aNil)) aNil)))) (eOp (oIsN false) (Jbc Ja3 (Jac (eTup (Jac (eC (.int 3)) (Jac (eFrz aNil) aNil))) aNil)) (eC .non)))))
noncomputable def Jop : PSem := runP 1 4 JBq
end W23
end
section
set_option Elab.async false
set_option maxRecDepth 10000
set_option linter.all false
namespace W23
open PySem PySem.Spec L2 VS
def top (i : Nat) : Stmt := PySem.Challenge.pw_boxcover_k23_the_most_often_held.main.body.getD i (.Pass ⟨0, 0, 0, 0⟩)
abbrev Je9 : Stmt := top 5
abbrev Jfb : Stmt := top 6
abbrev Jdu : Stmt := top 7
abbrev Jga : Stmt := top 8
abbrev Jfd : Stmt := top 9
abbrev Jed : Stmt := top 10
abbrev Jcy : Stmt := top 12
abbrev Jdi : Stmt := top 13
abbrev Jcz : Stmt := top 14
abbrev Jfa : Stmt := top 15
abbrev Jdf : Stmt := top 17
abbrev Je7 : Stmt := top 19
abbrev Je8 : Stmt := top 20
abbrev Jds : Stmt := top 21
abbrev Jdj : Stmt := top 22
abbrev Jef : Stmt := top 23
abbrev Jdk : Stmt := top 24
abbrev Jcv : Stmt := top 25
abbrev Jeg : Stmt := top 26
abbrev Jca : Stmt := top 27
abbrev Jee : Stmt := top 29
abbrev Jdr : Stmt := top 30
abbrev Jl6 : Stmt := top 31
theorem Jos : Jb3 ["thing"] ["thing"] (Jag Je9) := ⟨rfl,rfl,rfl,by decide +kernel,rfl,by decide +kernel,by decide +kernel⟩
theorem Jou : Jb3 ["thing"] ["thing"] (Jag Jfb) := ⟨rfl,rfl,rfl,by decide +kernel,rfl,by decide +kernel,by decide +kernel⟩
theorem Jl4 : Jb3 ["thing"] ["thing"] (Jag Jdu) := ⟨rfl,rfl,rfl,by decide +kernel,rfl,by decide +kernel,by decide +kernel⟩
theorem Jrz : Jb3 ["ways","thing"] ["ways","thing"] (Jag Jga) := ⟨rfl,rfl,rfl,by decide +kernel,rfl,by decide +kernel,by decide +kernel⟩
theorem Jip : Jb3 ["thing","ways","boxes"] ["thing"] (Jag Jfd) := ⟨rfl,rfl,rfl,by decide +kernel,rfl,by decide +kernel,by decide +kernel⟩
theorem Jnb : Jb3 ["heap"] ["heap"] (Jag Jed) := ⟨rfl,rfl,rfl,by decide +kernel,rfl,by decide +kernel,by decide +kernel⟩
theorem Jl5 : Jb3 ["boxes","way"] ["boxes","way"] (Jag Jcy) := ⟨rfl,rfl,rfl,by decide +kernel,rfl,by decide +kernel,by decide +kernel⟩
theorem Jhn : Jb3 ["boxes","way","ends"] ["boxes","way"] (Jag Jdi) := ⟨rfl,rfl,rfl,by decide +kernel,rfl,by decide +kernel,by decide +kernel⟩
theorem Jc3 : Jb3 ["boxes","numbers","way","ways","cells","low","high","there","rest","held_by"] ["boxes","numbers","way","ways"] (Jag Jcz) := ⟨rfl,rfl,rfl,by decide +kernel,rfl,by decide +kernel,by decide +kernel⟩
theorem Jot : Jb3 ["heap"] ["heap"] (Jag Jfa) := ⟨rfl,rfl,rfl,by decide +kernel,rfl,by decide +kernel,by decide +kernel⟩
theorem Jd3 : Jb3 ["heap","most","cell","numbers"] ["heap"] (Jag Jdf) := ⟨rfl,rfl,rfl,by decide +kernel,rfl,by decide +kernel,by decide +kernel⟩
theorem Joq : Jb3 ["cell"] ["cell"] (Jag Je7) := ⟨rfl,rfl,rfl,by decide +kernel,rfl,by decide +kernel,by decide +kernel⟩
theorem Jf9 : Jb3 ["well","many","got","stirred"] ["well","many"] (Jag Je8) := ⟨rfl,rfl,rfl,by decide +kernel,rfl,by decide +kernel,by decide +kernel⟩
theorem Jel : Jb3 ["well","many","far","way","some"] ["well","many"] (Jag Jds) := ⟨rfl,rfl,rfl,by decide +kernel,rfl,by decide +kernel,by decide +kernel⟩
theorem Jho : Jb3 ["well","marks","at"] ["well","marks"] (Jag Jdj) := ⟨rfl,rfl,rfl,by decide +kernel,rfl,by decide +kernel,by decide +kernel⟩
theorem Jec : Jb3 ["well","box","marks","way","at","low","high","inner"] ["well","box","marks"] (Jag Jef) := ⟨rfl,rfl,rfl,by decide +kernel,rfl,by decide +kernel,by decide +kernel⟩
theorem Jde : Jb3 ["well","ways","most","many","marks","boxes","alike","k","box"] ["well","ways","most"] (Jag Jdk) := ⟨rfl,rfl,rfl,by decide +kernel,rfl,by decide +kernel,by decide +kernel⟩
theorem Jgn : Jb3 ["well","ways"] ["well"] (Jag Jcv) := ⟨rfl,rfl,rfl,by decide +kernel,rfl,by decide +kernel,by decide +kernel⟩
theorem Ji8 : Jb3 ["box","spot","k"] ["box","spot"] (Jag Jeg) := ⟨rfl,rfl,rfl,by decide +kernel,rfl,by decide +kernel,by decide +kernel⟩
theorem Jbl : Jb3 ["heap","ways","boxes","found","way","marks","stretches","longer","some","cells","cell","spot"] ["heap"] (Jag Jca) := ⟨rfl,rfl,rfl,by decide +kernel,rfl,by decide +kernel,by decide +kernel⟩
theorem Jor : Jb3 ["found","due"] ["found","due"] (Jag Jee) := ⟨rfl,rfl,rfl,by decide +kernel,rfl,by decide +kernel,by decide +kernel⟩
theorem Jcx : Jb3 ["heap","best","cell","numbers","spot","handed","turn"] ["heap"] (Jag Jdr) := ⟨rfl,rfl,rfl,by decide +kernel,rfl,by decide +kernel,by decide +kernel⟩
theorem Jps : Jb3 ["script","cell","well","heap"] ["script"] (Jag Jl6) := ⟨rfl,rfl,rfl,by decide +kernel,rfl,by decide +kernel,by decide +kernel⟩
section
variable {P : Program} {w : World} {K : PySem.W.Frag} {mg : Str → Option Value} {base : Heap}
set_option maxHeartbeats 4000000 in
theorem Jo0 {f : Addr} {fd : FuncData} (F : Fun K "is_whole" "is_whole" Je9 f fd) (B : Blt mg) : FnOk P w K mg base CX0 1 f fd ["thing"] (spP K Jco 1) :=
  fnP F Jos fun cdv A outer s H E hr =>
    (Jam (Jbh (Jke (Jaq Jdb Jd2 rfl (B.is "isinstance") Ja8 (Jaa (Jab 0) (Jaa (Jh0 (n := "int") rfl (B.is "int") Jtq) Jae))) (Jnu (Jwl (Jaq Jdb Jd2 rfl (B.is "isinstance") Ja8 (Jaa (Jab 0) (Jaa (Jh0 (n := "bool") rfl (B.is "bool") Jtr) Jae))))))))
set_option maxHeartbeats 4000000 in
theorem Jo2 {f : Addr} {fd : FuncData} (F : Fun K "are_ways" "are_ways" Jfb f fd) (B : Blt mg) {d_MOST_BOXES : Addr} (M_MOST_BOXES : mg "MOST_BOXES" = some (.ref d_MOST_BOXES)) (T_MOST_BOXES : ∀ h,K.In h → PyProof.Rows.IntTab P w h d_MOST_BOXES Bc.D3) (c_is_whole : CalP P w K mg base "is_whole" 1 Jco) : FnOk P w K mg base CX0 2 f fd ["thing"] (spP K Jce 1) :=
  fnP F Jou fun cdv A outer s H E hr =>
    (Jam (Jbh (Jke (Jbv c_is_whole hr (by omega) rfl (Jaa (Jab 0) Jae)) (Jnu (Jvk T_MOST_BOXES (Jab 0) rfl M_MOST_BOXES)))))
set_option maxHeartbeats 4000000 in
theorem Jma {f : Addr} {fd : FuncData} (F : Fun K "is_stretch" "is_stretch" Jdu f fd) (B : Blt mg) (c_is_whole : CalP P w K mg base "is_whole" 1 Jco) : FnOk P w K mg base CX0 2 f fd ["thing"] (spP K Jc6 1) :=
  fnP F Jl4 fun cdv A outer s H E hr =>
    (Jak (Jd0 (Jjm (Jit (Jg5 (Jfx (Jaq Jdb Jd2 rfl (B.is "isinstance") Ja8 (Jaa (Jab 0) (Jaa (Jh0 (n := "tuple") rfl (B.is "tuple") Jek) Jae))))) (Jhq (Jb9 (Jhp hr) Jhm (Jaq Jaw Jcu rfl (B.is "len") Jdy (Jaa (Jab 0) Jae)) Jah (Jbm _)))))
      (Jam (Jbh Jjn))
      Jbo)
      (Jam (Jbh (Jke (Jbv c_is_whole hr (by omega) rfl (Jaa (Jb0 Ja1 Ja0 (Jab 0) Jah (fun _ _ => rfl)) Jae)) (Jke (Jbv c_is_whole hr (by omega) rfl (Jaa (Jb0 Ja1 Ja0 (Jab 0) Jah (fun _ _ => rfl)) Jae)) (Jnu (Jkd Jse Jm9 (Jb0 Ja1 Ja0 (Jab 0) Jah (fun _ _ => rfl)) (Jb0 Ja1 Ja0 (Jab 0) Jah (fun _ _ => rfl)) (Jbm _))))))))
set_option maxHeartbeats 4000000 in
theorem Jsh {f : Addr} {fd : FuncData} (F : Fun K "is_box" "is_box" Jga f fd) (B : Blt mg) (c_are_ways : CalP P w K mg base "are_ways" 2 Jce) (c_is_stretch : CalP P w K mg base "is_stretch" 2 Jc6) : FnOk P w K mg base CX0 3 f fd ["ways","thing"] (spP K Je6 2) :=
  fnP F Jrz fun cdv A outer s H E hr =>
    (Jak (Jd0 (Jjm (Jit (Jg5 (Jfx (Jbv c_are_ways hr (by omega) rfl (Jaa (Jab 0) Jae)))) (Jit (Jg5 (Jfx (Jaq Jdb Jd2 rfl (B.is "isinstance") Ja8 (Jaa (Jab 1) (Jaa (Jh0 (n := "tuple") rfl (B.is "tuple") Jek) Jae))))) (Jhq (Jb9 (Jhp hr) Jhm (Jaq Jaw Jcu rfl (B.is "len") Jdy (Jaa (Jab 1) Jae)) (Jab 0) (Jbm _))))))
      (Jam (Jbh Jjn))
      Jbo)
      (Jam (Jbh (Jaq (Jqj rfl) Jrt rfl (B.is "all") Jw3 (Jaa (Jck rfl (Jcw.of (sc := Jag Jga) (N := ["ways","thing"]) (N2 := ["part"]) (k := 1) (caps := []) (by decide +kernel)) rfl (Jdn (Jab 1)) ⟨fun _ _ _ _ _ => ⟨(Jay (i := 0) (show List.Nodup (["part"] : List Str) by decide +kernel)),Jdo,(Jbv c_is_stretch hr (by omega) rfl (Jaa (Jab 0) Jae))⟩⟩) Jae)))))
set_option maxHeartbeats 4000000 in
theorem Jqu {f : Addr} {fd : FuncData} (F : Fun K "is_heap" "is_heap" Jfd f fd) (B : Blt mg) {d_MOST_BOXES : Addr} (M_MOST_BOXES : mg "MOST_BOXES" = some (.ref d_MOST_BOXES)) (T_MOST_BOXES : ∀ h,K.In h → PyProof.Rows.IntTab P w h d_MOST_BOXES Bc.D3) (c_are_ways : CalP P w K mg base "are_ways" 2 Jce) (c_is_box : CalP P w K mg base "is_box" 3 Je6) : FnOk P w K mg base CX0 4 f fd ["thing"] (spP K Jeb 1) :=
  fnP F Jip fun cdv A outer s H E hr =>
    (Jak (Jd0 (Jjm (Jit (Jg5 (Jfx (Jaq Jdb Jd2 rfl (B.is "isinstance") Ja8 (Jaa (Jab 0) (Jaa (Jh0 (n := "tuple") rfl (B.is "tuple") Jek) Jae))))) (Jhq (Jb9 (Jhp hr) Jhm (Jaq Jaw Jcu rfl (B.is "len") Jdy (Jaa (Jab 0) Jae)) Jah (Jbm _)))))
      (Jam (Jbh Jjn))
      Jbo)
      (Jak (Jb4 (i := 1) Jip.nd (Jb0 Ja1 Ja0 (Jab 0) Jah (fun _ _ => rfl)))
      (Jak (Jb4 (i := 2) Jip.nd (Jb0 Ja1 Ja0 (Jab 0) Jah (fun _ _ => rfl)))
      (Jak (Jd0 (Jjm (Jit (Jg5 (Jfx (Jbv c_are_ways hr (by omega) rfl (Jaa (Jab 1) Jae)))) (Jit (Jg5 (Jfx (Jaq Jdb Jd2 rfl (B.is "isinstance") Ja8 (Jaa (Jab 2) (Jaa (Jh0 (n := "list") rfl (B.is "list") Ji4) Jae))))) (Jhq (Jb9 Jsf Jna (Jaq Jaw Jcu rfl (B.is "len") Jdy (Jaa (Jab 2) Jae)) (Jvj T_MOST_BOXES (Jab 1) rfl M_MOST_BOXES (fun _ _ => rfl)) (Jbm _))))))
      (Jam (Jbh Jjn))
      Jbo)
      (Jam (Jbh (Jaq (Jqj rfl) Jrt rfl (B.is "all") Jw3 (Jaa (Jck rfl (Jcw.of (sc := Jag Jfd) (N := ["thing","ways","boxes"]) (N2 := ["box","ways"]) (k := 1) (caps := [1]) (by decide +kernel)) rfl (Jdn (Jab 2)) ⟨fun _ _ _ _ _ => ⟨(Jay (i := 0) (show List.Nodup (["box","ways"] : List Str) by decide +kernel)),Jdo,(Jbv c_is_box hr (by omega) rfl (Jaa (Jab 1) (Jaa (Jab 0) Jae)))⟩⟩) Jae))))))))
set_option maxHeartbeats 4000000 in
theorem Jnj {f : Addr} {fd : FuncData} (F : Fun K "need_heap" "need_heap" Jed f fd) (B : Blt mg) (c_is_heap : CalP P w K mg base "is_heap" 4 Jeb) : FnOk P w K mg base CX0 5 f fd ["heap"] (spP K Jc1 1) :=
  fnP F Jnb fun cdv A outer s H E hr =>
    (Jam (Jd0 (Jg5 (Jfx (Jbv c_is_heap hr (by omega) rfl (Jaa (Jab 0) Jae))))
      (Jam Jvg)
      Jbo))
set_option maxHeartbeats 4000000 in
theorem Jmb {f : Addr} {fd : FuncData} (F : Fun K "ends_along" "ends_along" Jcy f fd) (B : Blt mg) : FnOk P w K mg base CX0 1 f fd ["boxes","way"] (spP K Jc7 2) :=
  fnP F Jl5 fun cdv A outer s H E hr =>
    (Jam (Jbh (Jiu rfl (Jbf Jba Ja9 (Jck rfl (Jcw.of (sc := Jag Jcy) (N := ["boxes","way"]) (N2 := ["box","way"]) (k := 1) (caps := [1]) (by decide +kernel)) rfl (Jdn (Jab 0)) ⟨fun _ _ _ _ _ => ⟨(Jay (i := 0) (show List.Nodup (["box","way"] : List Str) by decide +kernel)),Jdo,(Jb0 Ja1 Ja0 (Jb0 Ja1 Ja0 (Jab 0) (Jab 1) (fun _ _ => rfl)) Jah (fun _ _ => rfl))⟩⟩) (Jck rfl (Jcw.of (sc := Jag Jcy) (N := ["boxes","way"]) (N2 := ["box","way"]) (k := 1) (caps := [1]) (by decide +kernel)) rfl (Jdn (Jab 0)) ⟨fun _ _ _ _ _ => ⟨(Jay (i := 0) (show List.Nodup (["box","way"] : List Str) by decide +kernel)),Jdo,(Jb0 Ja1 Ja0 (Jb0 Ja1 Ja0 (Jab 0) (Jab 1) (fun _ _ => rfl)) Jah (fun _ _ => rfl))⟩⟩)) rfl (B.is "sorted") rfl (B.is "set"))))
set_option maxHeartbeats 4000000 in
theorem Jkz {f : Addr} {fd : FuncData} (F : Fun K "steps_along" "steps_along" Jdi f fd) (B : Blt mg) (Bz : mg "zip" = none) (c_ends_along : CalP P w K mg base "ends_along" 1 Jc7) : FnOk P w K mg base CX0 2 f fd ["boxes","way"] (spP K Jch 2) :=
  fnP F Jhn fun cdv A outer s H E hr =>
    (Jak (Jb4 (i := 2) Jhn.nd (Jbv c_ends_along hr (by omega) rfl (Jaa (Jab 0) (Jaa (Jab 1) Jae))))
      (Jam (Jbh (Jlj rfl (Jaa (Jab 2) (Jaa (Jd4 Jgu Jgv (Jab 2) (Jff Jah) Jfg) Jae)) rfl (B.is "list") rfl Bz))))
set_option maxHeartbeats 4000000 in
theorem Jeu {f : Addr} {fd : FuncData} (F : Fun K "cells_from" "cells_from" Jcz f fd) (B : Blt mg) (c_steps_along : CalP P w K mg base "steps_along" 2 Jch) {n k : Nat} (hk : 2 ≤ k) (c_cells_from : CalP P w K mg base "cells_from" k (Jau n)) : FnOk P w K mg base CX0 (k + 1) f fd ["boxes","numbers","way","ways"] (spP K (Jau (n + 1)) 4) :=
  fnP F Jc3 fun cdv A outer s H E hr =>
    (Jak (Jd0 (Jb9 (Jfl hr) Jfk (Jaq Jaw Jcu rfl (B.is "len") Jdy (Jaa (Jab 1) Jae)) Jah (Jbm _))
      (Jam (Jbh (Jc9 Jae Jao)))
      Jbo)
      (Jak (Jd0 (Jb9 (Jfl hr) Jfk (Jab 2) (Jab 3) (Jbm _))
      (Jam (Jbh (Jc9 (Jaa (Jci (Jaa (Jci Jae Jao) (Jaa (Jab 1) Jae)) (Jaj (Jaj Jao))) Jae) (Jaj Jao))))
      Jbo)
      (Jak (Jb4 (i := 4) Jc3.nd (Jmj Jae Jao))
      (Jak (Jg6 rfl (Jdn (Jbv c_steps_along hr (by omega) rfl (Jaa (Jck rfl (Jcw.of (sc := Jag Jcz) (N := ["boxes","numbers","way","ways","cells","low","high","there","rest","held_by"]) (N2 := ["number","boxes"]) (k := 1) (caps := [0]) (by decide +kernel)) rfl (Jdn (Jab 1)) ⟨fun _ _ _ _ _ => ⟨(Jay (i := 0) (show List.Nodup (["number","boxes"] : List Str) by decide +kernel)),Jdo,(Jb0 Ja1 Ja0 (Jab 1) (Jab 0) (fun _ _ => rfl))⟩⟩) (Jaa (Jab 2) Jae)))) (Jgo rfl (Jbn (Jay (i := 5) Jc3.nd) (Jbn (Jay (i := 6) Jc3.nd) Jeq)))
      (Jak (Jkb (i := 7) rfl Jc3.nd (Jcw.of (sc := Jag Jcz) (N := ["boxes","numbers","way","ways","cells","low","high","there","rest","held_by"]) (N2 := ["number","boxes","way","low"]) (k := 1) (caps := [0,2,5]) (by decide +kernel)) rfl (Jdn (Jab 1)) ⟨fun _ _ _ _ _ => ⟨(Jay (i := 0) (show List.Nodup (["number","boxes","way","low"] : List Str) by decide +kernel)),(Jmi (Jvf JAw Jwe Jse Jm9 (Jb0 Ja1 Ja0 (Jb0 Ja1 Ja0 (Jb0 Ja1 Ja0 (Jab 1) (Jab 0) (fun _ _ => rfl)) (Jab 2) (fun _ _ => rfl)) Jah (fun _ _ => rfl)) (Jab 3) (Jb0 Ja1 Ja0 (Jb0 Ja1 Ja0 (Jb0 Ja1 Ja0 (Jab 1) (Jab 0) (fun _ _ => rfl)) (Jab 2) (fun _ _ => rfl)) Jah (fun _ _ => rfl)))),(Jab 0)⟩⟩)
      (Jam (Jg6 rfl (Jdn (Jbv c_cells_from hr (by omega) rfl (Jaa (Jab 0) (Jaa (Jab 7) (Jaa (Jbf Jba Ja9 (Jab 2) Jah) (Jaa (Jab 3) Jae)))))) (Jgo rfl (Jbn (Jay (i := 8) Jc3.nd) (Jbn (Jay (i := 9) Jc3.nd) Jeq)))
      (Jam (Jlh (Jkc PySem.F.plainAttrs_list PySem.F.slot_list_append PySem.F.type_list_append Jj7 Jjz (Jab 4) (Jaa (Jci (Jaa (Jbf Jba Ja9 (Jci (Jaa (Jci (Jaa (Jab 5) (Jaa (Jab 6) Jae)) (Jaj (Jaj Jao))) Jae) (Jaj Jao)) (Jab 8)) (Jaa (Jab 9) Jae)) (Jaj (Jaj Jao))) Jae)))) PassesOwn.never))) PassesOwn.never)
      (Jam (Jbh (Jab 4)))))))
set_option maxHeartbeats 4000000 in
theorem Jo1 {f : Addr} {fd : FuncData} (F : Fun K "cells_of" "cells_of" Jfa f fd) (B : Blt mg) (c_cells_from : CalP P w K mg base "cells_from" 6 (Jau 4)) : FnOk P w K mg base CX0 7 f fd ["heap"] (spP K Jdd 1) :=
  fnP F Jot fun cdv A outer s H E hr =>
    (Jam (Jbh (Jbv c_cells_from hr (by omega) rfl (Jaa (Jb0 Ja1 Ja0 (Jab 0) Jah (fun _ _ => rfl)) (Jaa (Jfy rfl (Jaa (Jaq Jaw Jcu rfl (B.is "len") Jdy (Jaa (Jb0 Ja1 Ja0 (Jab 0) Jah (fun _ _ => rfl)) Jae)) Jae) rfl (B.is "list") rfl (B.is "range")) (Jaa Jah (Jaa (Jb0 Ja1 Ja0 (Jab 0) Jah (fun _ _ => rfl)) Jae)))))))
set_option maxHeartbeats 4000000 in
theorem Jl9 {f : Addr} {fd : FuncData} (F : Fun K "most_often" "most_often" Jdf f fd) (B : Blt mg) (c_need_heap : CalP P w K mg base "need_heap" 5 Jc1) (c_cells_of : CalP P w K mg base "cells_of" 7 Jdd) : FnOk P w K mg base CX0 8 f fd ["heap"] (spP K Ja3 1) :=
  fnP F Jd3 fun cdv A outer s H E hr =>
    (Jak (Jlh (Jbv c_need_heap hr (by omega) rfl (Jaa (Jab 0) Jae)))
      (Jak (Jb4 (i := 1) Jd3.nd Jli)
      (Jak (Jg6 rfl (Jdn (Jbv c_cells_of hr (by omega) rfl (Jaa (Jab 0) Jae))) (Jgo rfl (Jbn (Jay (i := 2) Jd3.nd) (Jbn (Jay (i := 3) Jd3.nd) Jeq)))
      (Jam (Jd0 (Jjm (Jit (Jb9 Jpz Jpo (Jab 1) Jli (Jbm _)) (Jhq (Jb9 Jsf Jna (Jaq Jaw Jcu rfl (B.is "len") Jdy (Jaa (Jab 3) Jae)) (Jb0 Ja1 Ja0 (Jab 1) Jah (fun _ _ => rfl)) (Jbm _)))))
      (Jam (Jb4 (i := 1) Jd3.nd (Jci (Jaa (Jaq Jaw Jcu rfl (B.is "len") Jdy (Jaa (Jab 3) Jae)) (Jaa (Jg7 Je4 Jh8 rfl (B.is "tuple") Jek (Jaa (Jck rfl (Jcw.of (sc := Jag Jdf) (N := ["heap","most","cell","numbers"]) (N2 := ["low","high"]) (k := 2) (caps := []) (by decide +kernel)) rfl (Jdn (Jab 2)) ⟨fun _ _ _ _ _ => ⟨(Jgo rfl (Jbn (Jay (i := 0) (show List.Nodup (["low","high"] : List Str) by decide +kernel)) (Jbn (Jay (i := 1) (show List.Nodup (["low","high"] : List Str) by decide +kernel)) Jeq))),Jdo,(Jab 0)⟩⟩) Jae)) Jae)) (Jaj (Jaj Jao)))))
      Jbo)) PassesOwn.never)
      (Jam (Jbh (Jab 1))))))
set_option maxHeartbeats 4000000 in
theorem Jow {f : Addr} {fd : FuncData} (F : Fun K "_law_well" "_law_well" Je7 f fd) (B : Blt mg) : FnOk P w K mg base CX0 1 f fd ["cell"] (spP K Jdc 1) :=
  fnP F Joq fun cdv A outer s H E hr =>
    (Jak (Jd0 (Jb9 JAy Jwf (Jab 0) (Jbf Jia Jf8 Jah Jah) (Jbm _))
      (Jam (Jbh (Jc9 (Jaa (Jab 0) (Jaa (Jbf Jj5 Jhs (Jab 0) Jah) Jae)) (Jaj (Jaj Jao)))))
      Jbo)
      (Jam (Jbh (Jc9 (Jaa Jah (Jaa (Jbf Jj5 Jhs (Jab 0) Jah) Jae)) (Jaj (Jaj Jao))))))
set_option maxHeartbeats 4000000 in
theorem Joz {f : Addr} {fd : FuncData} (F : Fun K "_law_draw" "_law_draw" Je8 f fd) (B : Blt mg) : FnOk P w K mg base CX0 1 f fd ["well","many"] (spM K Jal 2) :=
  fnM F Jf9 fun cdv A outer s H E hr =>
    (Jak (Jd0 (Jb9 Jsf Jna (Jb0 Ja1 Ja0 (Jab 0) Jah (fun _ _ => rfl)) Jah (Jbm _))
      (Jak (Jb4 (i := 2) Jf9.nd (Jbf Jj5 Jhs (Jb0 Ja1 Ja0 (Jab 0) Jah (fun _ _ => rfl)) (Jab 1)))
      (Jak (Jqa (Jbf Jp0 Jrs (Jb0 Ja1 Ja0 (Jab 0) Jah (fun _ _ => rfl)) (Jab 1)) (Jab 0) Jah)
      (Jam (Jbh (Jab 2)))))
      Jbo)
      (Jak (Jb4 (i := 3) Jf9.nd (Jbf Jj5 Jhs (Jbf Jba Ja9 (Jbf Jis Jin (Jb0 Ja1 Ja0 (Jab 0) Jah (fun _ _ => rfl)) Jah) Jah) Jah))
      (Jak (Jb4 (i := 3) Jf9.nd (Jbf Jj5 Jhs (Jbf Jis Jin (Jab 3) (Jab 3)) Jah))
      (Jak (Jqa (Jbf Jj5 Jhs (Jbf Jba Ja9 (Jbf Jis Jin (Jab 3) Jah) Jah) Jah) (Jab 0) Jah)
      (Jam (Jbh (Jbf Jj5 Jhs (Jbf Jis Jin (Jbf Jp0 Jrs (Jb0 Ja1 Ja0 (Jab 0) Jah (fun _ _ => rfl)) Jah) (Jb0 Ja1 Ja0 (Jc9 (Jaa Jah (Jaa Jah Jae)) (Jaj (Jaj Jao))) (Jg7 Jtn Jxr rfl (B.is "int") Jtq (Jaa (Jkd Jsf Jna (Jab 1) (Jbf Jia Jf8 Jah Jah) (Jbm _)) Jae)) (fun _ _ => rfl))) (Jab 1))))))))
set_option maxHeartbeats 4000000 in
theorem Jnl {f : Addr} {fd : FuncData} (F : Fun K "_law_marks" "_law_marks" Jds f fd) (B : Blt mg) (c_law_draw : CalM P w K mg base "_law_draw" 1 Jal) : FnOk P w K mg base CX0 2 f fd ["well","many"] (spM K Jbs 2) :=
  fnM F Jel fun cdv A outer s H E hr =>
    (Jak (Jb4 (i := 2) Jel.nd (Jbf Jba Ja9 (Jbf Jh9 Jf7 (Jbw c_law_draw hr (by omega) rfl (Jaa (Jab 0) (Jaa (Jbf Jh9 Jf7 (Jbf Jis Jin Jah (Jbf Jia Jf8 Jah Jah)) Jah) Jae))) (Jbf Jia Jf8 Jah Jah)) Jah))
      (Jak (Jb4 (i := 3) Jel.nd (Jbw c_law_draw hr (by omega) rfl (Jaa (Jab 0) (Jaa Jah Jae))))
      (Jak (Jd0 (Jb9 Jse Jm9 (Jab 3) Jah (Jbm _))
      (Jam (Jbh (Jb0 Ja1 Ja0 (Jc9 (Jaa (Jfy rfl (Jaa Jah Jae) rfl (B.is "list") rfl (B.is "range")) (Jaa (Jfy rfl (Jaa (JBg Jwc Jrr Jah) (Jaa Jah Jae)) rfl (B.is "list") rfl (B.is "range")) Jae)) (Jaj (Jaj Jao))) (Jab 3) (fun _ _ => rfl))))
      Jbo)
      (Jak (Jd0 (Jb9 (Jfl hr) Jfk (Jab 3) Jah (Jbm _))
      (Jam (Jbh (Jfy rfl (Jaa (Jab 2) (Jaa (Jbf Jba Ja9 (Jab 2) Jah) Jae)) rfl (B.is "list") rfl (B.is "range"))))
      Jbo)
      (Jak (Jkb (i := 4) rfl Jel.nd (Jcw.of (sc := Jag Jds) (N := ["well","many","far","way","some"]) (N2 := ["k","well"]) (k := 1) (caps := [0]) (by decide +kernel)) rfl (Jen rfl (B.is "range") (Jaa (Jbf Jba Ja9 Jah (Jab 1)) Jae)) ⟨fun _ _ _ _ _ => ⟨(Jay (i := 0) (show List.Nodup (["k","well"] : List Str) by decide +kernel)),Jdo,(Jbf Jh9 Jf7 (Jbw c_law_draw hr (by omega) rfl (Jaa (Jab 1) (Jaa (Jbf Jba Ja9 (Jbf Jis Jin Jah (Jbf Jia Jf8 Jah Jah)) Jah) Jae))) (Jbf Jia Jf8 Jah Jah))⟩⟩)
      (Jak (Jd0 (Jb9 (Jfl hr) Jfk (Jab 3) Jah (Jbm _))
      (Jam (Jb4 (i := 4) Jel.nd (Jbf Jba Ja9 (Jab 4) (Jc9 (Jaa (JBg Jwc Jrr (Jbf Jia Jf8 Jah Jah)) (Jaa (Jbf Jia Jf8 Jah Jah) Jae)) (Jaj (Jaj Jao))))))
      Jbo)
      (Jam (Jbh (Jiu rfl (Jbf Jba Ja9 (Jab 4) (Jc9 (Jaa (Jab 2) (Jaa (Jbf Jba Ja9 (Jab 2) Jah) Jae)) (Jaj (Jaj Jao)))) rfl (B.is "sorted") rfl (B.is "set"))))))))))
set_option maxHeartbeats 4000000 in
theorem Jk0 {f : Addr} {fd : FuncData} (F : Fun K "_law_stretch" "_law_stretch" Jdj f fd) (B : Blt mg) (c_law_draw : CalM P w K mg base "_law_draw" 1 Jal) : FnOk P w K mg base CX0 2 f fd ["well","marks"] (spM K Jbr 2) :=
  fnM F Jho fun cdv A outer s H E hr =>
    (Jak (Jb4 (i := 2) Jho.nd (Jbw c_law_draw hr (by omega) rfl (Jaa (Jab 0) (Jaa (Jbf Jh9 Jf7 (Jaq Jaw Jcu rfl (B.is "len") Jdy (Jaa (Jab 1) Jae)) Jah) Jae))))
      (Jam (Jbh (Jci (Jaa (Jb0 Ja1 Ja0 (Jab 1) (Jab 2) (fun _ _ => rfl)) (Jaa (Jb0 Ja1 Ja0 (Jab 1) (Jbf Jba Ja9 (Jbf Jba Ja9 (Jab 2) Jah) (Jbw c_law_draw hr (by omega) rfl (Jaa (Jab 0) (Jaa (Jbf Jh9 Jf7 (Jbf Jh9 Jf7 (Jaq Jaw Jcu rfl (B.is "len") Jdy (Jaa (Jab 1) Jae)) Jah) (Jab 2)) Jae)))) (fun _ _ => rfl)) Jae)) (Jaj (Jaj Jao))))))
set_option maxHeartbeats 4000000 in
theorem Jox {f : Addr} {fd : FuncData} (F : Fun K "_law_near" "_law_near" Jef f fd) (B : Blt mg) (c_law_draw : CalM P w K mg base "_law_draw" 1 Jal) (c_law_stretch : CalM P w K mg base "_law_stretch" 2 Jbr) : FnOk P w K mg base CX0 3 f fd ["well","box","marks"] (spM K Jb6 3) :=
  fnM F Jec fun cdv A outer s H E hr =>
    (Jak (Jb4 (i := 3) Jec.nd (Jbw c_law_draw hr (by omega) rfl (Jaa (Jab 0) (Jaa Jah Jae))))
      (Jak (Jb4 (i := 4) Jec.nd (Jbw c_law_draw hr (by omega) rfl (Jaa (Jab 0) (Jaa (Jaq Jaw Jcu rfl (B.is "len") Jdy (Jaa (Jab 1) Jae)) Jae))))
      (Jak (Jwk (Jb0 Ja1 Ja0 (Jab 1) (Jab 4) (fun _ _ => rfl)) (Jgo rfl (Jbn (Jay (i := 5) Jec.nd) (Jbn (Jay (i := 6) Jec.nd) Jeq))))
      (Jak (Jd0 (Jb9 (Jfl hr) Jfk (Jab 3) Jah (Jbm _))
      (Jam (Jbh (Jbf Jba Ja9 (Jbf Jba Ja9 (Jd4 Jgu Jgv (Jab 1) Jfg (Jff (Jab 4))) (Jci (Jaa (Jci (Jaa (Jab 6) (Jaa (Jbf Jba Ja9 (Jbf Jba Ja9 (Jab 6) Jah) (Jbw c_law_draw hr (by omega) rfl (Jaa (Jab 0) (Jaa Jah Jae)))) Jae)) (Jaj (Jaj Jao))) Jae) (Jaj Jao))) (Jd4 Jgu Jgv (Jab 1) (Jff (Jbf Jba Ja9 (Jab 4) Jah)) Jfg))))
      Jbo)
      (Jak (Jd0 (Jb9 (Jfl hr) Jfk (Jab 3) Jah (Jbm _))
      (Jak (Jb4 (i := 7) Jec.nd (Jbf Jba Ja9 (Jab 5) (Jbw c_law_draw hr (by omega) rfl (Jaa (Jab 0) (Jaa (Jbf Jh9 Jf7 (Jab 6) (Jab 5)) Jae)))))
      (Jam (Jbh (Jbf Jba Ja9 (Jbf Jba Ja9 (Jd4 Jgu Jgv (Jab 1) Jfg (Jff (Jab 4))) (Jci (Jaa (Jci (Jaa (Jab 7) (Jaa (Jab 6) Jae)) (Jaj (Jaj Jao))) Jae) (Jaj Jao))) (Jd4 Jgu Jgv (Jab 1) (Jff (Jbf Jba Ja9 (Jab 4) Jah)) Jfg)))))
      Jbo)
      (Jak (Jd0 (Jb9 (Jfl hr) Jfk (Jab 3) Jah (Jbm _))
      (Jam (Jbh (Jbf Jba Ja9 (Jbf Jba Ja9 (Jd4 Jgu Jgv (Jab 1) Jfg (Jff (Jab 4))) (Jci (Jaa (Jbw c_law_stretch hr (by omega) rfl (Jaa (Jab 0) (Jaa (Jb0 Ja1 Ja0 (Jab 2) (Jab 4) (fun _ _ => rfl)) Jae))) Jae) (Jaj Jao))) (Jd4 Jgu Jgv (Jab 1) (Jff (Jbf Jba Ja9 (Jab 4) Jah)) Jfg))))
      Jbo)
      (Jak (Jd0 (Jb9 (Jfl hr) Jfk (Jab 3) Jah (Jbm _))
      (Jam (Jbh (Jbf Jba Ja9 (Jbf Jba Ja9 (Jd4 Jgu Jgv (Jab 1) Jfg (Jff (Jab 4))) (Jci (Jaa (Jci (Jaa (Jbf Jh9 Jf7 (Jbf Jh9 Jf7 (Jab 5) Jah) (Jbw c_law_draw hr (by omega) rfl (Jaa (Jab 0) (Jaa Jah Jae)))) (Jaa (Jab 5) Jae)) (Jaj (Jaj Jao))) Jae) (Jaj Jao))) (Jd4 Jgu Jgv (Jab 1) (Jff (Jbf Jba Ja9 (Jab 4) Jah)) Jfg))))
      Jbo)
      (Jak (Jd0 (Jb9 (Jfl hr) Jfk (Jab 3) Jah (Jbm _))
      (Jam (Jbh (Jg7 Je4 Jh8 rfl (B.is "tuple") Jek (Jaa (Jck rfl (Jcw.of (sc := Jag Jef) (N := ["well","box","marks","way","at","low","high","inner"]) (N2 := ["one"]) (k := 1) (caps := []) (by decide +kernel)) rfl (Jdn (Jab 1)) ⟨fun _ _ _ _ _ => ⟨(Jay (i := 0) (show List.Nodup (["one"] : List Str) by decide +kernel)),Jdo,(Jci (Jaa (Jb0 Ja1 Ja0 (Jab 0) Jah (fun _ _ => rfl)) (Jaa (Jbf Jba Ja9 (Jb0 Ja1 Ja0 (Jab 0) Jah (fun _ _ => rfl)) Jah) Jae)) (Jaj (Jaj Jao)))⟩⟩) Jae))))
      Jbo)
      (Jam (Jbh (Jab 1)))))))))))
set_option maxHeartbeats 4000000 in
theorem Joy {f : Addr} {fd : FuncData} (F : Fun K "_law_heap" "_law_heap" Jdk f fd) (B : Blt mg) (c_law_draw : CalM P w K mg base "_law_draw" 1 Jal) (c_law_marks : CalM P w K mg base "_law_marks" 2 Jbs) (c_law_stretch : CalM P w K mg base "_law_stretch" 2 Jbr) (c_law_near : CalM P w K mg base "_law_near" 3 Jb6) : FnOk P w K mg base CX0 4 f fd ["well","ways","most"] (spM K Jcn 3) :=
  fnM F Jde fun cdv A outer s H E hr =>
    (Jak (Jb4 (i := 3) Jde.nd (Jb0 Ja1 Ja0 (Jc9 (Jaa (Jbw c_law_draw hr (by omega) rfl (Jaa (Jab 0) (Jaa (Jbf Jba Ja9 (Jaq (Jtk rfl) Juj rfl (B.is "min") JBw (Jaa (Jab 2) (Jaa Jah Jae))) Jah) Jae))) (Jaa (Jbw c_law_draw hr (by omega) rfl (Jaa (Jab 0) (Jaa (Jbf Jba Ja9 (Jab 2) Jah) Jae))) (Jaa (Jab 2) Jae))) (Jaj (Jaj (Jaj Jao)))) (Jbw c_law_draw hr (by omega) rfl (Jaa (Jab 0) (Jaa Jah Jae))) (fun _ _ => rfl)))
      (Jak (Jb4 (i := 4) Jde.nd (Jck rfl (Jcw.of (sc := Jag Jdk) (N := ["well","ways","most","many","marks","boxes","alike","k","box"]) (N2 := ["way","well","many"]) (k := 1) (caps := [0,3]) (by decide +kernel)) rfl (Jen rfl (B.is "range") (Jaa (Jab 1) Jae)) ⟨fun _ _ _ _ _ => ⟨(Jay (i := 0) (show List.Nodup (["way","well","many"] : List Str) by decide +kernel)),Jdo,(Jbw c_law_marks hr (by omega) rfl (Jaa (Jab 1) (Jaa (Jab 2) Jae)))⟩⟩))
      (Jak (Jb4 (i := 5) Jde.nd (Jmj Jae Jao))
      (Jak (Jb4 (i := 6) Jde.nd (Jbw c_law_draw hr (by omega) rfl (Jaa (Jab 0) (Jaa Jah Jae))))
      (Jak (Jg6 rfl (Jen rfl (B.is "range") (Jaa (Jab 3) Jae)) (Jay (i := 7) Jde.nd)
      (Jak (Jb4 (i := 8) Jde.nd (Jg7 Je4 Jh8 rfl (B.is "tuple") Jek (Jaa (Jck rfl (Jcw.of (sc := Jag Jdk) (N := ["well","ways","most","many","marks","boxes","alike","k","box"]) (N2 := ["way","well","marks"]) (k := 1) (caps := [0,4]) (by decide +kernel)) rfl (Jen rfl (B.is "range") (Jaa (Jab 1) Jae)) ⟨fun _ _ _ _ _ => ⟨(Jay (i := 0) (show List.Nodup (["way","well","marks"] : List Str) by decide +kernel)),Jdo,(Jbw c_law_stretch hr (by omega) rfl (Jaa (Jab 1) (Jaa (Jb0 Ja1 Ja0 (Jab 2) (Jab 0) (fun _ _ => rfl)) Jae)))⟩⟩) Jae)))
      (Jak (Jd0 (Jjm (Jwj (Jb9 (Jhp hr) Jhm (Jab 5) (Jc9 Jae Jao) (Jbm _)) (Jsw (Jb9 Jse Jm9 (Jbw c_law_draw hr (by omega) rfl (Jaa (Jab 0) (Jaa Jah Jae))) (Jab 6) (Jbm _)))))
      (Jam (Jb4 (i := 8) Jde.nd (Jbw c_law_near hr (by omega) rfl (Jaa (Jab 0) (Jaa (Jb0 Ja1 Ja0 (Jab 5) (Jbw c_law_draw hr (by omega) rfl (Jaa (Jab 0) (Jaa (Jaq Jaw Jcu rfl (B.is "len") Jdy (Jaa (Jab 5) Jae)) Jae))) (fun _ _ => rfl)) (Jaa (Jab 4) Jae))))))
      Jbo)
      (Jam (Jd0 (Jb9 JAw Jwe (Jaq (Jtl rfl rfl) Juk rfl (B.is "max") Jw2 (Jaa (Jck rfl (Jcw.of (sc := Jag Jdk) (N := ["well","ways","most","many","marks","boxes","alike","k","box"]) (N2 := ["low","high"]) (k := 2) (caps := []) (by decide +kernel)) rfl (Jdn (Jab 8)) ⟨fun _ _ _ _ _ => ⟨(Jgo rfl (Jbn (Jay (i := 0) (show List.Nodup (["low","high"] : List Str) by decide +kernel)) (Jbn (Jay (i := 1) (show List.Nodup (["low","high"] : List Str) by decide +kernel)) Jeq))),Jdo,(Jaq (Jtm rfl) Jum rfl (B.is "max") Jw2 (Jaa (Jaq Jqk Jru rfl (B.is "abs") Jw4 (Jaa (Jab 0) Jae)) (Jaa (Jaq Jqk Jru rfl (B.is "abs") Jw4 (Jaa (Jab 1) Jae)) Jae)))⟩⟩) Jae)) (Jbf Jia Jf8 Jah Jah) (Jbm _))
      (Jam (Jlh (Jkc PySem.F.plainAttrs_list PySem.F.slot_list_append PySem.F.type_list_append Jj7 Jjz (Jab 5) (Jaa (Jab 8) Jae))))
      Jbo)))) PassesOwn.never)
      (Jam (Jbh (Jci (Jaa (Jab 1) (Jaa (Jab 5) Jae)) (Jaj (Jaj Jao))))))))))
set_option maxHeartbeats 4000000 in
theorem Jjk {f : Addr} {fd : FuncData} (F : Fun K "_law_some_heap" "_law_some_heap" Jcv f fd) (B : Blt mg) (c_law_draw : CalM P w K mg base "_law_draw" 1 Jal) (c_law_heap : CalM P w K mg base "_law_heap" 4 Jcn) : FnOk P w K mg base CX0 5 f fd ["well"] (spM K Jbe 1) :=
  fnM F Jgn fun cdv A outer s H E hr =>
    (Jak (Jb4 (i := 1) Jgn.nd (Jbf Jba Ja9 Jah (Jbw c_law_draw hr (by omega) rfl (Jaa (Jab 0) (Jaa Jah Jae)))))
      (Jam (Jbh (Jbw c_law_heap hr (by omega) rfl (Jaa (Jab 0) (Jaa (Jab 1) (Jaa (Jb0 Ja1 Ja0 (Jc9 (Jaa Jah (Jaa Jah (Jaa Jah (Jaa Jah Jae)))) (Jaj (Jaj (Jaj (Jaj Jao))))) (Jab 1) (fun _ _ => rfl)) Jae)))))))
set_option maxHeartbeats 4000000 in
theorem Jnm {f : Addr} {fd : FuncData} (F : Fun K "_law_holds" "_law_holds" Jeg f fd) (B : Blt mg) : FnOk P w K mg base CX0 1 f fd ["box","spot"] (spP K Jcm 2) :=
  fnP F Ji8 fun cdv A outer s H E hr =>
    (Jak (Jg6 rfl (Jen rfl (B.is "range") (Jaa (Jaq Jaw Jcu rfl (B.is "len") Jdy (Jaa (Jab 0) Jae)) Jae)) (Jay (i := 2) Ji8.nd)
      (Jam (Jd0 (Jjm (Jit (Jb9 Jse Jm9 (Jb0 Ja1 Ja0 (Jab 1) (Jab 2) (fun _ _ => rfl)) (Jb0 Ja1 Ja0 (Jb0 Ja1 Ja0 (Jab 0) (Jab 2) (fun _ _ => rfl)) Jah (fun _ _ => rfl)) (Jbm _)) (Jhq (Jb9 JAy Jwf (Jb0 Ja1 Ja0 (Jab 1) (Jab 2) (fun _ _ => rfl)) (Jb0 Ja1 Ja0 (Jb0 Ja1 Ja0 (Jab 0) (Jab 2) (fun _ _ => rfl)) Jah (fun _ _ => rfl)) (Jbm _)))))
      (Jam (Jbh Jjn))
      Jbo)) PassesOwn.never)
      (Jam (Jbh Jjn)))
set_option maxHeartbeats 4000000 in
theorem Jnn {f : Addr} {fd : FuncData} (F : Fun K "_law_cells" "_law_cells" Jca f fd) (B : Blt mg) (Bz : mg "zip" = none) (Be : mg "enumerate" = none) (c_law_holds : CalP P w K mg base "_law_holds" 1 Jcm) : FnOk P w K mg base CX0 2 f fd ["heap"] (spP K Jc2 1) :=
  fnP F Jbl fun cdv A outer s H E hr =>
    (Jak (Jwk (Jab 0) (Jgo rfl (Jbn (Jay (i := 1) Jbl.nd) (Jbn (Jay (i := 2) Jbl.nd) Jeq))))
      (Jak (Jb4 (i := 3) Jbl.nd (Jc9 (Jaa (Jci Jae Jao) Jae) (Jaj Jao)))
      (Jak (Jg6 rfl (Jen rfl (B.is "range") (Jaa (Jab 1) Jae)) (Jay (i := 4) Jbl.nd)
      (Jak (Jb4 (i := 5) Jbl.nd (Jiu rfl (Jbf Jba Ja9 (Jck rfl (Jcw.of (sc := Jag Jca) (N := ["heap","ways","boxes","found","way","marks","stretches","longer","some","cells","cell","spot"]) (N2 := ["box","way"]) (k := 1) (caps := [4]) (by decide +kernel)) rfl (Jdn (Jab 2)) ⟨fun _ _ _ _ _ => ⟨(Jay (i := 0) (show List.Nodup (["box","way"] : List Str) by decide +kernel)),Jdo,(Jb0 Ja1 Ja0 (Jb0 Ja1 Ja0 (Jab 0) (Jab 1) (fun _ _ => rfl)) Jah (fun _ _ => rfl))⟩⟩) (Jck rfl (Jcw.of (sc := Jag Jca) (N := ["heap","ways","boxes","found","way","marks","stretches","longer","some","cells","cell","spot"]) (N2 := ["box","way"]) (k := 1) (caps := [4]) (by decide +kernel)) rfl (Jdn (Jab 2)) ⟨fun _ _ _ _ _ => ⟨(Jay (i := 0) (show List.Nodup (["box","way"] : List Str) by decide +kernel)),Jdo,(Jb0 Ja1 Ja0 (Jb0 Ja1 Ja0 (Jab 0) (Jab 1) (fun _ _ => rfl)) Jah (fun _ _ => rfl))⟩⟩)) rfl (B.is "sorted") rfl (B.is "set")))
      (Jak (Jb4 (i := 6) Jbl.nd (Jlj rfl (Jaa (Jab 5) (Jaa (Jd4 Jgu Jgv (Jab 5) (Jff Jah) Jfg) Jae)) rfl (B.is "list") rfl Bz))
      (Jak (Jb4 (i := 7) Jbl.nd (Jmj Jae Jao))
      (Jak (Jg6 rfl (Jdn (Jab 3)) (Jay (i := 8) Jbl.nd)
      (Jam (Jlh (Jkc PySem.F.plainAttrs_list PySem.F.slot_list_extend PySem.F.type_list_extend Jsk Jro (Jab 7) (Jaa (Jck rfl (Jcw.of (sc := Jag Jca) (N := ["heap","ways","boxes","found","way","marks","stretches","longer","some","cells","cell","spot"]) (N2 := ["one","some"]) (k := 1) (caps := [8]) (by decide +kernel)) rfl (Jdn (Jab 6)) ⟨fun _ _ _ _ _ => ⟨(Jay (i := 0) (show List.Nodup (["one","some"] : List Str) by decide +kernel)),Jdo,(Jbf Jba Ja9 (Jab 1) (Jci (Jaa (Jab 0) Jae) (Jaj Jao)))⟩⟩) Jae)))) PassesOwn.never)
      (Jam (Jb4 (i := 3) Jbl.nd (Jab 7))))))) PassesOwn.never)
      (Jak (Jb4 (i := 9) Jbl.nd (Jmj Jae Jao))
      (Jak (Jg6 rfl (Jdn (Jab 3)) (Jay (i := 10) Jbl.nd)
      (Jak (Jb4 (i := 11) Jbl.nd (Jck rfl (Jcw.of (sc := Jag Jca) (N := ["heap","ways","boxes","found","way","marks","stretches","longer","some","cells","cell","spot"]) (N2 := ["low","high"]) (k := 2) (caps := []) (by decide +kernel)) rfl (Jdn (Jab 10)) ⟨fun _ _ _ _ _ => ⟨(Jgo rfl (Jbn (Jay (i := 0) (show List.Nodup (["low","high"] : List Str) by decide +kernel)) (Jbn (Jay (i := 1) (show List.Nodup (["low","high"] : List Str) by decide +kernel)) Jeq))),Jdo,(Jab 0)⟩⟩))
      (Jam (Jlh (Jkc PySem.F.plainAttrs_list PySem.F.slot_list_append PySem.F.type_list_append Jj7 Jjz (Jab 9) (Jaa (Jci (Jaa (Jab 10) (Jaa (Jck rfl (Jcw.of (sc := Jag Jca) (N := ["heap","ways","boxes","found","way","marks","stretches","longer","some","cells","cell","spot"]) (N2 := ["k","box","spot"]) (k := 2) (caps := [11]) (by decide +kernel)) rfl (Jyt rfl Be (Jaa (Jab 2) Jae)) ⟨fun _ _ _ _ _ => ⟨(Jgo rfl (Jbn (Jay (i := 0) (show List.Nodup (["k","box","spot"] : List Str) by decide +kernel)) (Jbn (Jay (i := 1) (show List.Nodup (["k","box","spot"] : List Str) by decide +kernel)) Jeq))),(Jmi (Jfx (Jbv c_law_holds hr (by omega) rfl (Jaa (Jab 1) (Jaa (Jab 2) Jae))))),(Jab 0)⟩⟩) Jae)) (Jaj (Jaj Jao))) Jae))))) PassesOwn.never)
      (Jam (Jbh (Jck rfl (Jcw.of (sc := Jag Jca) (N := ["heap","ways","boxes","found","way","marks","stretches","longer","some","cells","cell","spot"]) (N2 := ["cell","numbers"]) (k := 2) (caps := []) (by decide +kernel)) rfl (Jdn (Jab 9)) ⟨fun _ _ _ _ _ => ⟨(Jgo rfl (Jbn (Jay (i := 0) (show List.Nodup (["cell","numbers"] : List Str) by decide +kernel)) (Jbn (Jay (i := 1) (show List.Nodup (["cell","numbers"] : List Str) by decide +kernel)) Jeq))),(Jmi (Jb9 (Jhp hr) Jhm (Jab 1) (Jc9 Jae Jao) (Jbm _))),(Jci (Jaa (Jab 0) (Jaa (Jab 1) Jae)) (Jaj (Jaj Jao)))⟩⟩))))))))
set_option maxHeartbeats 4000000 in
set_option maxHeartbeats 4000000 in
theorem Jgb {f : Addr} {fd : FuncData} (F : Fun K "_law_same" "_law_same" Jee f fd) (B : Blt mg) {n k : Nat} (hk : 0 ≤ k) (c_law_same : CalP P w K mg base "_law_same" k (Jar n)) : FnOk P w K mg base CX0 (k + 1) f fd ["found","due"] (spP K (Jar (n + 1)) 2) :=
  fnP F Jor fun cdv A outer s H E hr =>
    (Jak (Jd0 (Jfx (Jaq Jdb Jd2 rfl (B.is "isinstance") Ja8 (Jaa (Jab 1) (Jaa (Jci (Jaa (Jh0 (n := "tuple") rfl (B.is "tuple") Jek) (Jaa (Jh0 (n := "list") rfl (B.is "list") Ji4) Jae)) (Jaj (Jaj Jao))) Jae))))
      (Jak (Jd0 (Jjm (Jit (Jb9 (Jhp hr) Jhm (Jaq Jdb Jd2 rfl (B.is "isinstance") Ja8 (Jaa (Jab 0) (Jaa (Jh0 (n := "tuple") rfl (B.is "tuple") Jek) Jae))) (Jaq Jdb Jd2 rfl (B.is "isinstance") Ja8 (Jaa (Jab 1) (Jaa (Jh0 (n := "tuple") rfl (B.is "tuple") Jek) Jae))) (Jbm _)) (Jhq (Jb9 (Jhp hr) Jhm (Jaq Jdb Jd2 rfl (B.is "isinstance") Ja8 (Jaa (Jab 0) (Jaa (Jh0 (n := "list") rfl (B.is "list") Ji4) Jae))) (Jaq Jdb Jd2 rfl (B.is "isinstance") Ja8 (Jaa (Jab 1) (Jaa (Jh0 (n := "list") rfl (B.is "list") Ji4) Jae))) (Jbm _)))))
      (Jam (Jbh Jjn))
      Jbo)
      (Jak (Jd0 (Jb9 (Jhp hr) Jhm (Jaq Jaw Jcu rfl (B.is "len") Jdy (Jaa (Jab 0) Jae)) (Jaq Jaw Jcu rfl (B.is "len") Jdy (Jaa (Jab 1) Jae)) (Jbm _))
      (Jam (Jbh Jjn))
      Jbo)
      (Jam (Jbh (Jkd (Jfl hr) Jfk (Jck rfl (Jcw.of (sc := Jag Jee) (N := ["found","due"]) (N2 := ["k","found","due"]) (k := 1) (caps := [0,1]) (by decide +kernel)) rfl (Jen rfl (B.is "range") (Jaa (Jaq Jaw Jcu rfl (B.is "len") Jdy (Jaa (Jab 1) Jae)) Jae)) ⟨fun _ _ _ _ _ => ⟨(Jay (i := 0) (show List.Nodup (["k","found","due"] : List Str) by decide +kernel)),(Jmi (Jg5 (Jfx (Jbv c_law_same hr (by omega) rfl (Jaa (Jb0 Ja1 Ja0 (Jab 1) (Jab 0) (fun _ _ => rfl)) (Jaa (Jb0 Ja1 Ja0 (Jab 2) (Jab 0) (fun _ _ => rfl)) Jae)))))),(Jab 0)⟩⟩) (Jc9 Jae Jao) (Jbm _))))))
      Jbo)
      (Jak (Jd0 (Jjm (Jit (Jb9 Jpz Jpo (Jab 1) Jli (Jbm _)) (Jhq (Jfx (Jaq Jdb Jd2 rfl (B.is "isinstance") Ja8 (Jaa (Jab 1) (Jaa (Jh0 (n := "str") rfl (B.is "str") JBu) Jae)))))))
      (Jam (Jbh (Jkd (Jfl hr) Jfk (Jab 0) (Jab 1) (Jbm _))))
      Jbo)
      (Jam (Jbh (Jke (Jaq Jdb Jd2 rfl (B.is "isinstance") Ja8 (Jaa (Jab 0) (Jaa (Jh0 (n := "int") rfl (B.is "int") Jtq) Jae))) (Jke (Jwl (Jaq Jdb Jd2 rfl (B.is "isinstance") Ja8 (Jaa (Jab 0) (Jaa (Jh0 (n := "bool") rfl (B.is "bool") Jtr) Jae)))) (Jnu (Jkd (Jfl hr) Jfk (Jab 0) (Jab 1) (Jbm _)))))))))
set_option maxHeartbeats 4000000 in
theorem Jnk {f : Addr} {fd : FuncData} (F : Fun K "_law_right" "_law_right" Jdr f fd) (B : Blt mg) (c_law_cells : CalP P w K mg base "_law_cells" 2 Jc2) (c_law_same : CalP P w K mg base "_law_same" 4 (Jar 4)) (c_most_often : CalP P w K mg base "most_often" 8 Ja3) : FnOk P w K mg base CX0 9 f fd ["heap"] (spP K Jcc 1) :=
  fnP F Jcx fun cdv A outer s H E hr =>
    (Jak (Jb4 (i := 1) Jcx.nd Jli)
      (Jak (Jg6 rfl (Jdn (Jbv c_law_cells hr (by omega) rfl (Jaa (Jab 0) Jae))) (Jgo rfl (Jbn (Jay (i := 2) Jcx.nd) (Jbn (Jay (i := 3) Jcx.nd) Jeq)))
      (Jak (Jb4 (i := 4) Jcx.nd (Jg7 Je4 Jh8 rfl (B.is "tuple") Jek (Jaa (Jck rfl (Jcw.of (sc := Jag Jdr) (N := ["heap","best","cell","numbers","spot","handed","turn"]) (N2 := ["low","high"]) (k := 2) (caps := []) (by decide +kernel)) rfl (Jdn (Jab 2)) ⟨fun _ _ _ _ _ => ⟨(Jgo rfl (Jbn (Jay (i := 0) (show List.Nodup (["low","high"] : List Str) by decide +kernel)) (Jbn (Jay (i := 1) (show List.Nodup (["low","high"] : List Str) by decide +kernel)) Jeq))),Jdo,(Jab 0)⟩⟩) Jae)))
      (Jam (Jd0 (Jjm (Jit (Jb9 Jpz Jpo (Jab 1) Jli (Jbm _)) (Jit (Jb9 Jsf Jna (Jaq Jaw Jcu rfl (B.is "len") Jdy (Jaa (Jab 3) Jae)) (Jb0 Ja1 Ja0 (Jab 1) Jah (fun _ _ => rfl)) (Jbm _)) (Jhq (Jjm (Jwj (Jb9 (Jfl hr) Jfk (Jaq Jaw Jcu rfl (B.is "len") Jdy (Jaa (Jab 3) Jae)) (Jb0 Ja1 Ja0 (Jab 1) Jah (fun _ _ => rfl)) (Jbm _)) (Jsw (Jb9 (Jye hr) Jxq (Jab 4) (Jb0 Ja1 Ja0 (Jab 1) Jah (fun _ _ => rfl)) (Jbm _)))))))))
      (Jam (Jb4 (i := 1) Jcx.nd (Jci (Jaa (Jaq Jaw Jcu rfl (B.is "len") Jdy (Jaa (Jab 3) Jae)) (Jaa (Jab 4) Jae)) (Jaj (Jaj Jao)))))
      Jbo))) PassesOwn.never)
      (Jak (Jb4 (i := 5) Jcx.nd (Jci (Jaa (Jb0 Ja1 Ja0 (Jab 0) Jah (fun _ _ => rfl)) (Jaa (Jyu Jod Juo rfl (B.is "list") Ji4 (Jaa (Jb0 Ja1 Ja0 (Jab 0) Jah (fun _ _ => rfl)) Jae)) Jae)) (Jaj (Jaj Jao))))
      (Jak (Jg6 rfl (Jen rfl (B.is "range") (Jaa Jah Jae)) (Jay (i := 6) Jcx.nd)
      (Jam (Jd0 (Jjm (Jit (Jg5 (Jfx (Jbv c_law_same hr (by omega) rfl (Jaa (Jbv c_most_often hr (by omega) rfl (Jaa (Jab 5) Jae)) (Jaa (Jab 1) Jae))))) (Jhq (Jb9 (Jhp hr) Jhm (Jab 5) (Jab 0) (Jbm _)))))
      (Jam (Jbh Jjn))
      Jbo)) PassesOwn.never)
      (Jam (Jbh Jjn))))))
set_option maxHeartbeats 4000000 in
theorem JA2 {f : Addr} {fd : FuncData} (F : Fun K "law" "law" Jl6 f fd) (B : Blt mg) (c_law_well : CalP P w K mg base "_law_well" 1 Jdc) (c_law_some_heap : CalM P w K mg base "_law_some_heap" 5 Jbe) (c_law_right : CalP P w K mg base "_law_right" 9 Jcc) (c_law_draw : CalM P w K mg base "_law_draw" 1 Jal) (c_most_often : CalP P w K mg base "most_often" 8 Ja3) : FnOk P w K mg base CX0 10 f fd ["script"] (spP K Jop 1) :=
  fnP F Jps fun cdv A outer s H E hr =>
    (Jak (Jg6 rfl (Jdn (Jbf Jba Ja9 (Jc9 (Jaa Jah (Jaa Jah Jae)) (Jaj (Jaj Jao))) (Jd4 Jgu Jgv (Jab 0) Jfg (Jff Jah)))) (Jay (i := 1) Jps.nd)
      (Jak (Jb4 (i := 2) Jps.nd (Jvh c_law_well hr (by omega) rfl (Jaa (Jab 1) Jae)))
      (Jak (Jb4 (i := 3) Jps.nd (Jvi c_law_some_heap hr (by omega) rfl (Jaa (Jab 2) Jae)))
      (Jak (Jd0 (Jg5 (Jfx (Jbv c_law_right hr (by omega) rfl (Jaa (Jab 3) Jae))))
      (Jam (Jbh Jjn))
      Jbo)
      (Jam (Jd0 (Jb9 (Jhp hr) Jhm (Jb0 Ja1 Ja0 (Jab 3) Jah (fun _ _ => rfl)) (Jc9 Jae Jao) (Jbm _))
      (Jak (Jlh (Jkc PySem.F.plainAttrs_list PySem.F.slot_list_pop PySem.F.type_list_pop Ju4 Jui (Jb0 Ja1 Ja0 (Jab 3) Jah (fun _ _ => rfl)) (Jaa (Jbw c_law_draw hr (by omega) rfl (Jaa (Jab 2) (Jaa (Jaq Jaw Jcu rfl (B.is "len") Jdy (Jaa (Jb0 Ja1 Ja0 (Jab 3) Jah (fun _ _ => rfl)) Jae)) Jae))) Jae)))
      (Jam (Jd0 (Jg5 (Jfx (Jbv c_law_right hr (by omega) rfl (Jaa (Jab 3) Jae))))
      (Jam (Jbh Jjn))
      Jbo)))
      Jbo))))) PassesOwn.never)
      (Jam (Jbh (Jke (Jkd (Jfl hr) Jfk (Jbv c_most_often hr (by omega) rfl (Jaa (Jci (Jaa Jah (Jaa (Jc9 (Jaa (Jci (Jaa (Jci (Jaa Jah (Jaa Jah Jae)) (Jaj (Jaj Jao))) Jae) (Jaj Jao)) (Jaa (Jci (Jaa (Jci (Jaa Jah (Jaa Jah Jae)) (Jaj (Jaj Jao))) Jae) (Jaj Jao)) Jae)) (Jaj (Jaj Jao))) Jae)) (Jaj (Jaj Jao))) Jae)) (Jci (Jaa Jah (Jaa (Jci (Jaa Jah Jae) (Jaj Jao)) Jae)) (Jaj (Jaj Jao))) (Jbm _)) (Jnu (Jkd Jpz Jpo (Jbv c_most_often hr (by omega) rfl (Jaa (Jci (Jaa Jah (Jaa (Jc9 Jae Jao) Jae)) (Jaj (Jaj Jao))) Jae)) Jli (Jbm _)))))))
end
end W23
end
section
set_option Elab.async false
set_option maxRecDepth 10000
set_option linter.all false
set_option maxHeartbeats 4000000
namespace W23
open PySem L2 VS
theorem Jje (i : Int) : Jco [.int i] = some (.bl true) := by
  simp [Jco,Jln,Ja2,Jaf,Jbj,Jai,Jad,Jb5,Jg9,Jkq,Jcr,den,-List.map_map,-Option.map_bind]
theorem Jkx {n : Int} (h : n = 1 ∨ n = 2 ∨ n = 3) : Jce [.int n] = some (.bl true) := by
  have e : (Spec.lookup (.int n) Bc.D3).isSome = true := by rw [Bc.JDr]; exact decide_eq_true h
  simp [Jce,Jlp,Ja2,Jaf,Jlr,Jai,Jad,Jg9,Jdq,Jcr,den,denL,age,ageL,Ja4,Jax,-List.map_map,-Option.map_bind,Jje,oTab,e]
theorem Jml (p : St2) : Jc6 [encS p] = some (.bl (decide (p.1 < p.2))) := by
  have h : seeP [] (encS p) = some (pS p) := Jrv [] p
  simp only [encS] at h ⊢
  simp [Jc6,Jjg,Jbu,Ja2,Jb7,Jbi,Jaf,Jbj,Jap,Jai,Jad,Jb5,Jg9,Jas,Jer,Jim,Jdq,oI,yes2,oLt,oEq,oIx,bLen,VS.listOf,Jav,Jcr,den,denL,age,ageL,Ja4,Jax,-List.map_map,-Option.map_bind,Jje,h,pS]
theorem Jvm (n : Nat) (b : List St2) (hb : ∀ p ∈ b,p.1 < p.2) (hl : b.length ≤ 1000) : Jkf [some (.int n),some (encB b)] [] = some (b.map (fun _ => D.bl true),[]) := by
  unfold Jkf Jcs
  have e : iSeq (eVar 1) [some (.int n),some (encB b)] [] = some ((b.map encS,[]),[]) := by simp [Jaf,VS.listOf,Jav,VS.idOf,Jcd,-List.map_map,-Option.map_bind,encB]
  rw [e]
  simp only [Option.bind_some]
  rw [Jjv (by simp) (fun _ => .bl true) _ (by simp; omega)]
  · simp [Function.comp_def]
  · intro d hd
    obtain ⟨p,hp,rfl⟩ := List.mem_map.mp hd
    refine ⟨_,rfl,?_⟩
    have h1 := Jml p
    rw [decide_eq_true (hb p hp)] at h1
    simp [Jaf,Jai,Jad,capE,Jdq,denL,ageL,Jax,List.replicate_succ,-List.map_map,-Option.map_bind,h1]
theorem Jly {α : Type} (l : List α) : bAll.boolsOf (l.map fun _ => D.bl true) = some (l.map fun _ => true) := by
  have := Jpd (l.map fun _ => true)
  rw [List.map_map] at this
  exact this
theorem Js0 {n : Nat} {b : List St2} (hn : n = 1 ∨ n = 2 ∨ n = 3) (hb : ∀ p ∈ b,p.1 < p.2) (hl : b.length = n) : Je6 [.int n,encB b] = some (.bl true) := by
  have hw : Jce [.int n] = some (.bl true) := Jkx (by omega)
  have hc := Jvm n b hb (by omega)
  have h : seeP [] (encB b) = some (pB b) := Jrw [] b
  have hlen : bLen [] [encB b] = some (.int n) := by simp [bLen,encB,Jav,hl]
  simp [Je6,Jqf,sSeq,sIf,sRet,sNil,VS.tOr,VS.tNot,tVal,Jbc,eCB,Jac,aNil,eVar,eC,eOp,eFrz,runP,den,denL,age,ageL,Ja4,Jax,hw,h,pB,hlen,oEq,hc,bAll,VS.listOf,Jly]
theorem Jyk {n : Nat} (h : n = 1 ∨ n = 2 ∨ n = 3) : Jp1 Bc.D3 [] (.int n) = some (.int ([0,20,10,6].getD n 0 : Nat)) := by
  rcases h with h | h | h <;> subst h <;> rfl
theorem Jsz {n : Nat} {m : Bool} {bs : List (List St2)} (g : Good n bs) : Jiv [some (encH m n bs),some (.int n),some (.lst m (bs.map encB))] [] = some (bs.map (fun _ => D.bl true),[]) := by
  have few := g.few
  unfold Jiv Jcs
  have e : iSeq (eVar 2) [some (encH m n bs),some (.int n),some (.lst m (bs.map encB))] [] = some ((bs.map encB,[]),[]) := by simp [Jaf,VS.listOf,Jav,VS.idOf,Jcd,-List.map_map,-Option.map_bind]
  rw [e]
  simp only [Option.bind_some]
  rw [Jjv (by simp) (fun _ => .bl true) _ (by simp; omega)]
  · simp [Function.comp_def]
  · intro d hd
    obtain ⟨b,hb,rfl⟩ := List.mem_map.mp hd
    refine ⟨_,rfl,?_⟩
    have h1 := Js0 g.ways (fun p hp => ((g.box b hb).2 p hp).1) (g.box b hb).1
    simp [Jaf,Jai,Jad,capE,Jdq,den,denL,age,ageL,Ja4,Jax,List.replicate_succ,-List.map_map,-Option.map_bind,h1]
theorem Jq3 {n : Nat} {m : Bool} {bs : List (List St2)} (g : Good n bs) : Jeb [encH m n bs] = some (.bl true) := by
  have hw : Jce [.int n] = some (.bl true) := Jkx (by have := g.ways; omega)
  have hc := Jsz (m := m) g
  have h := Jj0 [] m n bs
  have h2 := Jio [] m bs
  have hm := Jyk g.ways
  have hle : ¬ (([0,20,10,6].getD n 0 : Nat) : Int) < (bs.length : Int) := by have := g.most; omega
  unfold encH at h hc ⊢
  simp only [List.getD_eq_getElem?_getD] at hm hle
  simp [Jeb,Jn3,sSeq,sIf,sRet,sNil,sSet,VS.tOr,VS.tNot,tVal,Jbc,eCB,Jac,aNil,eVar,eC,eOp,eUn,eFrz,runP,den,denL,age,ageL,Ja4,Jax,hw,h,h2,hc,oEq,oIx,oGt,oI,yes2,bLen,VS.Jav,VS.listOf,bAll,Jly,hm,hle]
theorem Jnp {n : Nat} {m : Bool} {bs : List (List St2)} (g : Good n bs) : Jc1 [encH m n bs] = some .non := by
  have h := Jq3 (m := false) g
  simp [Jc1,Jkm,Jb7,Jbi,Jr0,Jaf,Jai,Jad,Jas,Jim,Jdq,Jcr,denL,ageL,Jax,-List.map_map,-Option.map_bind,h]
end W23
end
section
set_option Elab.async false
set_option maxRecDepth 10000
set_option linter.all false
set_option maxHeartbeats 4000000
namespace W23
open PySem L2 VS
theorem Jxd (c : Int) : ∃ x y,Jdc [.int c] = some (.lst true [.int x,.int y]) := by
  by_cases h : (1000000000000000000 : Int) ≤ c <;> simp [Jdc,Jlm,Jbu,Ja2,Jb7,Jbi,Jaf,Jbj,Jap,Jai,Jad,Jas,Jat,oI,yes2,cMod,cPow,oMod,oPow,oGe,Jcr,den,denL,-List.map_map,-Option.map_bind,h]
theorem Jda (x y m : Int) (h0 : 0 < m) (h1 : m < 2 ^ 63) : ∃ r x' y',Jal [x,y] [.int m] = some (.int r,[x',y']) ∧ 0 ≤ r ∧ r < m := by
  have hm : m < 18446744073709551616 := by omega
  by_cases h : 0 < x
  · simp [Jal,Ji0,Jbu,Jaz,Ja2,Jb7,Jbi,Jnc,Jaf,Jbj,Jap,Jai,Jad,Jb5,Jas,Jat,oI,yes2,cMul,cDiv,cMod,cPow,oAdd,oMul,oDiv,oMod,oPow,oGt,oIx,bInt,VS.listOf,Jav,Jc8,intsOf,den,List.replicate_succ,-List.map_map,-Option.map_bind,h,h0,hm]
    exact ⟨Int.emod_nonneg _ (by omega),Int.emod_lt_of_pos _ h0⟩
  · have hc : ∀ t : Int,-18446744073709551616 < t % 2147483647 ∧ t % 2147483647 < 18446744073709551616 := fun t => by omega
    have hc2 : ∀ t : Int,-18446744073709551616 < t % 2147483587 ∧ t % 2147483587 < 18446744073709551616 := fun t => by omega
    have hc3 : ∀ t : Int,-18446744073709551616 < t % 2147483629 / 8 ∧ t % 2147483629 / 8 < 18446744073709551616 := fun t => by omega
    by_cases hb : 1000000 < m <;> simp [Jal,Ji0,Jbu,Jaz,Ja2,Jb7,Jbi,Jnc,Jaf,Jbj,Jap,Jai,Jad,Jb5,Jas,Jat,oI,yes2,cMul,cDiv,cMod,cPow,oAdd,oMul,oDiv,oMod,oPow,oGt,oIx,bInt,VS.listOf,Jav,Jc8,intsOf,den,List.replicate_succ,-List.map_map,-Option.map_bind,h,h0,hm,hb,hc,hc2,hc3] <;> exact ⟨Int.emod_nonneg _ (by omega),Int.emod_lt_of_pos _ h0⟩
structure Marks (ms : List Int) : Prop where
  rise : ms.Pairwise (· < ·)
  two : 2 ≤ ms.length
  few : ms.length ≤ 60
  near : ∀ x ∈ ms,-1000000000 ≤ x ∧ x ≤ 1000000000
theorem Jl1 {lo : Int} {n : Nat} (h1 : 2 ≤ n) (h2 : n ≤ 60) (h3 : -1000000000 ≤ lo) (h4 : lo + n ≤ 1000000000) : Marks ((List.range n).map fun (i : Nat) => lo + (i : Int)) := by
  refine ⟨?_,by simpa using h1,by simpa using h2,fun x hx => ?_⟩
  · rw [List.pairwise_map]
    exact List.pairwise_lt_range.imp fun h => by omega
  · obtain ⟨i,hi,rfl⟩ := List.mem_map.mp hx
    have := List.mem_range.mp hi
    omega
theorem Jyn (x y many f w : Int) (h0 : 0 ≤ many) (h1 : many ≤ 40) : ∃ (ns : List Int) (x' y' : Int),Jgz [some (.ref 0),some (.int many),some (.int f),some (.int w),none] [some [.int x,.int y]] = some (ns.map .int,[some [.int x',.int y']]) ∧ ns.length ≤ 42 ∧ ∀ n ∈ ns,-1000000000 ≤ n ∧ n ≤ 1000000000 := by
  have e : Jc5 (Jac (eOp oAdd (eC (.int 2)) (eVar 1)) aNil) [some (.ref 0),some (.int many),some (.int f),some (.int w),none] [some [.int x,.int y]] = some ((upD 0 (2 + many).toNat,[]),[some [.int x,.int y]]) := by
    exact Jjb _ (by simp [Jaf,Jbj,Jap,Jai,Jad,oAdd,VS.listOf,-List.map_map,-Option.map_bind]) rfl (by omega) (by omega)
  unfold Jgz Jcs
  rw [e]
  simp only [Option.bind_some]
  obtain ⟨ys,S',e2,⟨ns,x',y',rfl,rfl,hl,hb⟩⟩ := Jmt (w := []) (e0 := capE 1 [0] [some (.ref 0),some (.int many),some (.int f),some (.int w),none]) (g := Pat.sem (.nm 0)) (ds := upD 0 (2 + many).toNat) (S := [some [.int x,.int y]])
    (f := (eOp oSub (Jby Jal (Jac (eVar 1) (Jac (eOp oAdd (eOp oMul (eC (.int 2)) (eOp oPow (eC (.int 10)) (eC (.int 9)))) (eC (.int 1))) aNil))) (eOp oPow (eC (.int 10)) (eC (.int 9)))))
    (fun i ys S => ∃ (ns : List Int) (x' y' : Int),ys = ns.map D.int ∧ S = [some [.int x',.int y']] ∧ ns.length = min i 42 ∧ ∀ n ∈ ns,-1000000000 ≤ n ∧ n ≤ 1000000000)
    ⟨[],x,y,rfl,rfl,rfl,fun n hn => by simp at hn⟩ (fun i ys S ⟨ns,x',y',h1,h2,h3,h4⟩ => ⟨by simp,by rw [h1,List.length_map,h3]; omega⟩)
    (fun i d ys S hd ⟨ns,x',y',h1,h2,h3,h4⟩ => by
      obtain ⟨hi,rfl⟩ := Jil hd
      obtain ⟨r,x2,y2,e3,r0,r1⟩ := Jda x' y' 2000000001 (by decide) (by decide)
      subst h1 h2
      refine ⟨_,.int (r - 1000000000),[some [.int x2,.int y2]],rfl,?_,ns ++ [r - 1000000000],x2,y2,by simp,rfl,by simp; omega,fun n hn => ?_⟩
      · simp [Jaf,Jbj,Jap,Jai,Jad,capE,Ja7,oI,yes2,cMul,cPow,oAdd,oSub,oMul,oPow,VS.listOf,intsOf,den,denL,age,ageL,Ja4,Jax,List.replicate_succ,-List.map_map,-Option.map_bind,e3]
      · rcases List.mem_append.mp hn with z | z
        · exact h4 n z
        · have : n = r - 1000000000 := by simpa using z
          omega)
  refine ⟨ns,x',y',e2,by omega,hb⟩
theorem Jla {ns : List Int} {f : Int} (hl : ns.length ≤ 44) (hb : ∀ n ∈ ns,-1000000000 ≤ n ∧ n ≤ 1000000000) (h1 : -1000000000 ≤ f) (h2 : f + 1 ≤ 1000000000) : Marks (Jea (ns ++ [f,f + 1])) ∧ (SetP.once (ns ++ [f,f + 1])).length < 64 := by
  obtain ⟨o1,o2,o3⟩ := SetP.Jhd (ns ++ [f,f + 1])
  have hp : (Jea (ns ++ [f,f + 1])).Perm (SetP.once (ns ++ [f,f + 1])) := List.mergeSort_perm _ _
  have hlen : (ns ++ [f,f + 1]).length ≤ 46 := by simp; omega
  have hs : (Jea (ns ++ [f,f + 1])).Pairwise (· ≤ ·) := by
    have := List.pairwise_mergeSort (le := fun a b : Int => decide (a ≤ b)) (by intro a b c h1 h2; simp at *; omega) (by intro a b; simp; omega) (SetP.once (ns ++ [f,f + 1]))
    exact this.imp fun h => by simpa using h
  have mem : ∀ z,z ∈ Jea (ns ++ [f,f + 1]) ↔ z ∈ ns ++ [f,f + 1] := fun z => hp.mem_iff.trans (o3 z)
  refine ⟨⟨?_,?_,by rw [hp.length_eq]; omega,fun z hz => ?_⟩,by omega⟩
  · have nd := hp.nodup_iff.mpr o1
    exact (hs.and nd).imp fun ⟨h,n⟩ => by omega
  · have m1 : f ∈ Jea (ns ++ [f,f + 1]) := (mem f).mpr (by simp)
    have m2 : f + 1 ∈ Jea (ns ++ [f,f + 1]) := (mem _).mpr (by simp)
    match Jea (ns ++ [f,f + 1]),m1,m2 with
    | [],m1,_ => simp at m1
    | [z],m1,m2 => simp at m1 m2; omega
    | _ :: _ :: _,_,_ => simp
  · rcases List.mem_append.mp ((mem z).mp hz) with q | q
    · exact hb z q
    · simp at q; omega
theorem Ju5 (x y many : Int) (h0 : 0 ≤ many) (h1 : many ≤ 40) : ∃ ms x' y',Jbs [x,y] [.int many] = some (.lst true (ms.map .int),[x',y']) ∧ Marks ms := by
  obtain ⟨r,x1,y1,e1,r0,r1⟩ := Jda x y 1999999980 (by decide) (by decide)
  obtain ⟨w,x2,y2,e2,w0,w1⟩ := Jda x1 y1 5 (by decide) (by decide)
  obtain ⟨ns,x3,y3,e3,hl,hb⟩ := Jyn x2 y2 many (r - 1000000000 + 10) w h0 h1
  have hw : w = 0 ∨ w = 1 ∨ w = 2 ∨ w = 3 ∨ w = 4 := by omega
  rcases hw with rfl | rfl | rfl | rfl | rfl
  · refine ⟨_,x2,y2,?_,Jl1 (lo := 0) (n := 7) (by decide) (by decide) (by decide) (by decide)⟩
    rw [← Jh4]
    simp [Jbs,Jei,Jbu,Jaz,Ja2,Jb7,Jbi,Jaf,Jbj,Jap,Jlr,Jai,Jad,Jas,Jat,Ja7,Jdm,Jdt,oI,yes2,cMul,cPow,oAdd,oSub,oMul,oPow,oLt,oNeg,oEq,oIx,VS.listOf,Jav,Jc8,intsOf,den,denL,age,ageL,Ja4,Jax,List.replicate_succ,-List.map_map,-Option.map_bind,e1,e2,r62]
  · refine ⟨_,x2,y2,?_,Jl1 (lo := -3) (n := 7) (by decide) (by decide) (by decide) (by decide)⟩
    rw [← Jh4]
    simp [Jbs,Jei,Jbu,Jaz,Ja2,Jb7,Jbi,Jaf,Jbj,Jap,Jlr,Jai,Jad,Jas,Jat,Ja7,Jdm,Jdt,oI,yes2,cMul,cPow,oAdd,oSub,oMul,oPow,oLt,oNeg,oEq,oIx,VS.listOf,Jav,Jc8,intsOf,den,denL,age,ageL,Ja4,Jax,List.replicate_succ,-List.map_map,-Option.map_bind,e1,e2,r62]
  · refine ⟨_,x2,y2,?_,Jl1 (lo := r - 1000000000 + 10) (n := 6) (by decide) (by decide) (by omega) (by omega)⟩
    rw [← Jh4]
    have hr : r62 (r - 1000000000 + 10) ∧ r62 (r - 1000000000 + 10 + 6) := by unfold r62; omega
    have h6 : (r - 1000000000 + 10 + 6 - (r - 1000000000 + 10)).toNat = 6 := by omega
    have h7 : r - 1000000000 + 10 + 6 - (r - 1000000000 + 10) ≤ 1000 := by omega
    simp [Jbs,Jei,Jbu,Jaz,Ja2,Jb7,Jbi,Jaf,Jbj,Jap,Jlr,Jai,Jad,Jas,Jat,Ja7,Jdm,Jdt,oI,yes2,cMul,cPow,oAdd,oSub,oMul,oPow,oLt,oNeg,oEq,oIx,VS.listOf,Jav,Jc8,intsOf,den,denL,age,ageL,Ja4,Jax,List.replicate_succ,-List.map_map,-Option.map_bind,e1,e2,hr,h6,h7]
  · obtain ⟨hm,ho⟩ := Jla (ns := ns ++ [-1000000000,1000000000]) (f := r - 1000000000 + 10) (by simp; omega) (fun n hn => by
      rcases List.mem_append.mp hn with z | z
      · exact hb n z
      · simp at z; omega) (by omega) (by omega)
    refine ⟨_,x3,y3,?_,hm⟩
    rw [List.append_assoc] at ho ⊢
    have hi : intsOf (ns.map D.int ++ [.int (-1000000000),.int 1000000000,.int (r - 1000000000 + 10),.int (r - 1000000000 + 10 + 1)]) = some (ns ++ ([-1000000000,1000000000] ++ [r - 1000000000 + 10,r - 1000000000 + 10 + 1])) := by
      rw [← Jhf (ns ++ ([-1000000000,1000000000] ++ [r - 1000000000 + 10,r - 1000000000 + 10 + 1]))]; simp
    have hl2 : ns.length + 4 < 1000 ∧ ns.length + 4 ≤ 1000000 ∧ ns.length + 2 ≤ 1000000 ∧ ns.length + 2 + 2 ≤ 1000000 ∧ ns.length ≤ 999998 ∧ ns.length ≤ 999996 := by omega
    simp only [List.cons_append,List.nil_append] at hi ho ⊢
    simp [Jbs,Jei,Jbu,Jaz,Ja2,Jb7,Jbi,Jaf,Jbj,Jap,Jlr,Jai,Jad,Jas,Jat,Ja7,Jdm,Jdt,oI,yes2,cMul,cPow,oAdd,oSub,oMul,oPow,oLt,oNeg,oEq,oIx,VS.listOf,Jav,Jc8,intsOf,den,denL,age,ageL,Ja4,Jax,List.replicate_succ,-List.map_map,-Option.map_bind,e1,e2,e3,hi,ho,hl2]
  · obtain ⟨hm,ho⟩ := Jla (ns := ns) (f := r - 1000000000 + 10) (by omega) hb (by omega) (by omega)
    refine ⟨_,x3,y3,?_,hm⟩
    have hi : intsOf (ns.map D.int ++ [.int (r - 1000000000 + 10),.int (r - 1000000000 + 10 + 1)]) = some (ns ++ [r - 1000000000 + 10,r - 1000000000 + 10 + 1]) := by
      rw [← Jhf (ns ++ [r - 1000000000 + 10,r - 1000000000 + 10 + 1])]; simp
    have hl2 : ns.length + 2 < 1000 ∧ ns.length + 2 ≤ 1000000 ∧ ns.length ≤ 999998 := by omega
    simp [Jbs,Jei,Jbu,Jaz,Ja2,Jb7,Jbi,Jaf,Jbj,Jap,Jlr,Jai,Jad,Jas,Jat,Ja7,Jdm,Jdt,oI,yes2,cMul,cPow,oAdd,oSub,oMul,oPow,oLt,oNeg,oEq,oIx,VS.listOf,Jav,Jc8,intsOf,den,denL,age,ageL,Ja4,Jax,List.replicate_succ,-List.map_map,-Option.map_bind,e1,e2,e3,hi,ho,hl2]
end W23
end
section
set_option Elab.async false
set_option maxRecDepth 10000
set_option linter.all false
set_option maxHeartbeats 4000000
namespace W23
open PySem L2 VS
theorem Jk7 (x y : Int) (m : Bool) {ms : List Int} (M : Marks ms) : ∃ p x' y',Jbr [x,y] [.lst m (ms.map .int)] = some (encS p,[x',y']) ∧ p.1 < p.2 ∧ -1000000000 ≤ p.1 ∧ p.2 ≤ 1000000000 := by
  have h2 := M.two
  have h6 := M.few
  obtain ⟨a,x1,y1,e1,a0,a1⟩ := Jda x y ((ms.length : Int) - 1) (by omega) (by omega)
  obtain ⟨c,x2,y2,e2,c0,c1⟩ := Jda x1 y1 ((ms.length : Int) - 1 - a) (by omega) (by omega)
  obtain ⟨u,f1,g1⟩ := Ji6 (F := D.int) (l := ms) (i := a) a0 (by omega)
  obtain ⟨v,f2,g2⟩ := Ji6 (F := D.int) (l := ms) (i := a + 1 + c) (by omega) (by omega)
  have hu := M.near u (List.mem_of_getElem? g1)
  have hv := M.near v (List.mem_of_getElem? g2)
  have huv : u < v := by
    obtain ⟨l1,q1⟩ := List.getElem?_eq_some_iff.mp g1
    obtain ⟨l2,q2⟩ := List.getElem?_eq_some_iff.mp g2
    rw [← q1,← q2]
    exact List.pairwise_iff_getElem.mp M.rise _ _ _ _ (by omega)
  refine ⟨(u,v),x2,y2,?_,huv,hu.1,hv.2⟩
  simp [Jbr,Jie,Jbu,Jaz,Ja2,Jaf,Jbj,Jap,Jai,Jad,Jb5,Jb1,Ja7,oI,yes2,oAdd,oSub,oIx,bLen,VS.listOf,Jav,Jc8,intsOf,den,denL,age,ageL,Ja4,Jax,List.replicate_succ,-List.map_map,-Option.map_bind,e1,e2,f1,f2,encS]
def encM (m : Bool) (mss : List (List Int)) : D := .lst m (mss.map fun ms => .lst m (ms.map .int))
theorem JA6 (x y : Int) (b : List St2) (r : VS.Env) (S : Store) (hl : b.length ≤ 3) (d0 : Option D) : Jhy (d0 :: some (encB b) :: r) S = some (b.map (fun p => encS (p.2,p.2 + 1)),S) := by
  unfold Jhy Jcs
  have e : iSeq (eVar 1) (d0 :: some (encB b) :: r) S = some ((b.map encS,[]),S) := by simp [Jaf,VS.listOf,Jav,VS.idOf,Jcd,-List.map_map,-Option.map_bind,encB]
  rw [e]
  simp only [Option.bind_some]
  have := Jjv (w := []) (e0 := capE 1 [] (d0 :: some (encB b) :: r)) (g := Pat.sem (.nm 0)) (S := S) (f := eTup (Jac (eOp oIx (eVar 0) (eC (.int 1))) (Jac (eOp oAdd (eOp oIx (eVar 0) (eC (.int 1))) (eC (.int 1))) aNil)))
    (by simp) (fun d => match d with | .tup [_,.int h] => encS (h,h + 1) | _ => .non) (b.map encS) (by simp; omega) (fun d hd => by
      obtain ⟨p,hp,rfl⟩ := List.mem_map.mp hd
      exact ⟨_,rfl,by simp [Jaf,Jbj,Jap,Jai,Jad,Jb1,capE,oAdd,oIx,VS.listOf,Jav,List.replicate_succ,-List.map_map,-Option.map_bind,encS]⟩)
  rw [this]
  simp [encS,Function.comp_def]
theorem Jfi {b : List St2} : Jd9 (b.map encS) = true := Jf5 b fun p _ => Jd5 p
theorem Jyi (x y : Int) (b : List St2) (m : Bool) (mss : List (List Int)) (h0 : 1 ≤ b.length) (h3 : b.length ≤ 3) (hb : ∀ p ∈ b,p.1 < p.2 ∧ -1000000000 ≤ p.1 ∧ p.2 ≤ 1000000000) (hm : mss.length = b.length) (hM : ∀ ms ∈ mss,Marks ms) :
    ∃ c x' y',Jb6 [x,y] [encB b,encM m mss] = some (encB c,[x',y']) ∧ c.length = b.length ∧ ∀ p ∈ c,p.1 < p.2 := by
  obtain ⟨w,x1,y1,e1,w0,w1⟩ := Jda x y 6 (by decide) (by decide)
  obtain ⟨a,x2,y2,e2,a0,a1⟩ := Jda x1 y1 (b.length : Int) (by omega) (by omega)
  obtain ⟨⟨lo,hi⟩,f1,g1⟩ := Ji6 (F := encS) (l := b) (i := a) a0 a1
  have hp := hb _ (List.mem_of_getElem? g1)
  simp only at hp
  have hal : a.toNat < b.length := by omega
  have c1 := JBs (xs := b.map encS) (a := a) a0 (by simp; omega)
  have c2 := Jms (xs := b.map encS) (a := a + 1) (by omega) (by simp; omega)
  have t1 : (a + 1).toNat = a.toNat + 1 := by omega
  -- the box with another stretch
  have put : ∀ q1 q2 : Int,q1 < q2 → ∃ c : List St2,(∀ S : Store,denL 1 S ((b.map encS).take a.toNat ++ (D.tup [.int q1,.int q2] :: (b.map encS).drop (a.toNat + 1))) = some (c.map encS)) ∧ c.length = b.length ∧ ∀ p ∈ c,p.1 < p.2 := fun q1 q2 hq => by
    refine ⟨b.take a.toNat ++ (q1,q2) :: b.drop (a.toNat + 1),fun S => ?_,by simp; omega,fun p hp' => ?_⟩
    · rw [show (b.map encS).take a.toNat ++ (D.tup [.int q1,.int q2] :: (b.map encS).drop (a.toNat + 1)) = (b.take a.toNat ++ (q1,q2) :: b.drop (a.toNat + 1)).map encS by simp [List.map_take,List.map_drop,encS]]
      exact Jbb 1 S (Jbg Jfi)
    · rcases List.mem_append.mp hp' with z | z
      · exact (hb p (List.mem_of_mem_take z)).1
      · rcases List.mem_cons.mp z with z | z
        · rw [z]; exact hq
        · exact (hb p (List.mem_of_mem_drop z)).1
  have hlen : min a.toNat b.length ≤ 999999 ∧ min a.toNat b.length + 1 + (b.length - (a.toNat + 1)) ≤ 1000000 ∧ min a.toNat b.length + (b.length - (a.toNat + 1) + 1) ≤ 1000000 ∧ min a.toNat b.length + (1 + (b.length - (a.toNat + 1))) ≤ 1000000 := by omega
  have hw : w = 0 ∨ w = 1 ∨ w = 2 ∨ w = 3 ∨ w = 4 ∨ w = 5 := by omega
  rcases hw with rfl | rfl | rfl | rfl | rfl | rfl
  · refine ⟨b,x2,y2,?_,rfl,fun p hp => (hb p hp).1⟩
    unfold encB at *
    unfold encM
    simp [Jb6,Jeh,Jbu,Jaz,Ja2,Jb7,Jhu,Jbi,Jaf,Jbj,Jap,Jai,Jad,Jb5,Jas,Jew,Jev,Jig,Jat,Jb1,Ja7,oI,yes2,oAdd,oSub,oEq,oIx,oSl,bLen,bTup,VS.listOf,Jav,Jc8,Jcp,Jes,Jct,Jcb,intsOf,den,denL,age,ageL,Ja4,Jax,List.replicate_succ,-List.map_map,-Option.map_bind,e1,e2,f1,encS,Jbb,Jbg,Jfi]
  · obtain ⟨r,x3,y3,e3,r0,r1⟩ := Jda x2 y2 3 (by decide) (by decide)
    obtain ⟨c,hc,hl,hlt⟩ := put hi (hi + 1 + r) (by omega)
    refine ⟨c,x3,y3,?_,hl,hlt⟩
    unfold encB at *
    unfold encM
    simp [Jb6,Jeh,Jbu,Jaz,Ja2,Jb7,Jhu,Jbi,Jaf,Jbj,Jap,Jai,Jad,Jb5,Jas,Jew,Jev,Jig,Jat,Jb1,Ja7,oI,yes2,oAdd,oSub,oEq,oIx,oSl,bLen,bTup,VS.listOf,Jav,Jc8,Jcp,Jes,Jct,Jcb,intsOf,den,denL,age,ageL,Ja4,Jax,List.replicate_succ,-List.map_map,-Option.map_bind,e1,e2,e3,f1,c1,c2,t1,hlen,hc,encS,Jbb,Jbg,Jfi]
  · obtain ⟨r,x3,y3,e3,r0,r1⟩ := Jda x2 y2 (hi - lo) (by omega) (by omega)
    obtain ⟨c,hc,hl,hlt⟩ := put (lo + r) hi (by omega)
    refine ⟨c,x3,y3,?_,hl,hlt⟩
    unfold encB at *
    unfold encM
    simp [Jb6,Jeh,Jbu,Jaz,Ja2,Jb7,Jhu,Jbi,Jaf,Jbj,Jap,Jai,Jad,Jb5,Jas,Jew,Jev,Jig,Jat,Jb1,Ja7,oI,yes2,oAdd,oSub,oEq,oIx,oSl,bLen,bTup,VS.listOf,Jav,Jc8,Jcp,Jes,Jct,Jcb,intsOf,den,denL,age,ageL,Ja4,Jax,List.replicate_succ,-List.map_map,-Option.map_bind,e1,e2,e3,f1,c1,c2,t1,hlen,hc,encS,Jbb,Jbg,Jfi]
  · obtain ⟨ms,f3,g3⟩ := Ji6 (F := fun ms => D.lst m (ms.map D.int)) (l := mss) (i := a) a0 (by omega)
    obtain ⟨⟨u,v⟩,x3,y3,e3,huv,_,_⟩ := Jk7 x2 y2 false (hM ms (List.mem_of_getElem? g3))
    simp only at huv
    obtain ⟨c,hc,hl,hlt⟩ := put u v huv
    refine ⟨c,x3,y3,?_,hl,hlt⟩
    unfold encB at *
    unfold encM
    simp only [encS] at e3
    simp [Jb6,Jeh,Jbu,Jaz,Ja2,Jb7,Jhu,Jbi,Jaf,Jbj,Jap,Jai,Jad,Jb5,Jas,Jew,Jev,Jig,Jat,Jb1,Ja7,oI,yes2,oAdd,oSub,oEq,oIx,oSl,bLen,bTup,VS.listOf,Jav,Jc8,Jcp,Jes,Jct,Jcb,intsOf,den,denL,age,ageL,Ja4,Jax,List.replicate_succ,-List.map_map,-Option.map_bind,e1,e2,e3,f1,f3,c1,c2,t1,hlen,hc,encS,Jbb,Jbg,Jfi]
  · obtain ⟨r,x3,y3,e3,r0,r1⟩ := Jda x2 y2 3 (by decide) (by decide)
    obtain ⟨c,hc,hl,hlt⟩ := put (lo - 1 - r) lo (by omega)
    refine ⟨c,x3,y3,?_,hl,hlt⟩
    unfold encB at *
    unfold encM
    simp [Jb6,Jeh,Jbu,Jaz,Ja2,Jb7,Jhu,Jbi,Jaf,Jbj,Jap,Jai,Jad,Jb5,Jas,Jew,Jev,Jig,Jat,Jb1,Ja7,oI,yes2,oAdd,oSub,oEq,oIx,oSl,bLen,bTup,VS.listOf,Jav,Jc8,Jcp,Jes,Jct,Jcb,intsOf,den,denL,age,ageL,Ja4,Jax,List.replicate_succ,-List.map_map,-Option.map_bind,e1,e2,e3,f1,c1,c2,t1,hlen,hc,encS,Jbb,Jbg,Jfi]
  · refine ⟨b.map fun p => (p.2,p.2 + 1),x2,y2,?_,by simp,fun p hp => ?_⟩
    · have hn := JA6 x y b
      have hd : ∀ S : Store,denL 1 S (b.map fun p => encS (p.2,p.2 + 1)) = some (b.map fun p => encS (p.2,p.2 + 1)) := fun S => Jbb 1 S (Jbg (Jf5 b fun p _ => Jd5 _))
      unfold encB at *
      unfold encM
      simp [Jb6,Jeh,Jbu,Jaz,Ja2,Jb7,Jhu,Jbi,Jaf,Jbj,Jap,Jai,Jad,Jb5,Jas,Jew,Jev,Jig,Jat,Jb1,Ja7,oI,yes2,oAdd,oSub,oEq,oIx,oSl,bLen,bTup,VS.listOf,Jav,Jc8,Jcp,Jes,Jct,Jcb,intsOf,den,denL,age,ageL,Ja4,Jax,List.replicate_succ,-List.map_map,-Option.map_bind,e1,e2,f1,hn,h3,encS,Jbb,Jbg,Jfi,Function.comp_def]
      simp [encS] at hd
      exact (hd _).trans (by rw [List.map_map]; rfl)
    · obtain ⟨q,_,rfl⟩ := List.mem_map.mp hp
      simp; omega
end W23
end
section
set_option Elab.async false
set_option maxRecDepth 10000
set_option linter.all false
set_option maxHeartbeats 4000000
namespace W23
open PySem L2 VS
theorem Jy8 (x y : Int) (n : Nat) (many : Int) (most : D) (hn : n ≤ 3) (h0 : 0 ≤ many) (h1 : many ≤ 40) : ∃ (mss : List (List Int)) (x' y' : Int),Jgf [some (.ref 0),some (.int n),some most,some (.int many),none,none,none,none,none] [some [.int x,.int y]] = some (mss.map (fun ms => .lst true (ms.map .int)),[some [.int x',.int y']]) ∧ mss.length = n ∧ ∀ ms ∈ mss,Marks ms := by
  have e : Jc5 (Jac (eVar 1) aNil) [some (.ref 0),some (.int n),some most,some (.int many),none,none,none,none,none] [some [.int x,.int y]] = some ((upD 0 n,[]),[some [.int x,.int y]]) := by
    exact Jjb _ (by simp [Jaf,Jai,Jad,-List.map_map,-Option.map_bind]; rfl) (by simp) (by omega) (by omega)
  unfold Jgf Jcs
  rw [e]
  simp only [Option.bind_some]
  obtain ⟨ys,S',e2,⟨mss,x',y',rfl,rfl,hl,hb⟩⟩ := Jmt (w := []) (e0 := capE 1 [0,3] [some (.ref 0),some (.int n),some most,some (.int many),none,none,none,none,none]) (g := Pat.sem (.nm 0)) (ds := upD 0 n) (S := [some [.int x,.int y]])
    (f := (Jby Jbs (Jac (eVar 1) (Jac (eVar 2) aNil))))
    (fun i ys S => ∃ (mss : List (List Int)) (x' y' : Int),ys = mss.map (fun ms => D.lst true (ms.map D.int)) ∧ S = [some [.int x',.int y']] ∧ mss.length = min i 3 ∧ ∀ ms ∈ mss,Marks ms)
    ⟨[],x,y,rfl,rfl,rfl,fun n hn => by simp at hn⟩ (fun i ys S ⟨ns,x',y',h1,h2,h3,h4⟩ => ⟨by simp,by rw [h1,List.length_map,h3]; omega⟩)
    (fun i d ys S hd ⟨mss,x',y',h1,h2,h3,h4⟩ => by
      obtain ⟨hi,rfl⟩ := Jil hd
      obtain ⟨ms,x2,y2,e3,M⟩ := Ju5 x' y' many h0 (by omega)
      subst h1 h2
      refine ⟨_,.lst true (ms.map .int),[some [.int x2,.int y2]],rfl,?_,mss ++ [ms],x2,y2,by simp,rfl,by simp; omega,fun n hn => ?_⟩
      · simp [Jaf,Jai,Jad,capE,Ja7,intsOf,den,denL,age,ageL,Ja4,Jax,List.replicate_succ,-List.map_map,-Option.map_bind,e3]
      · rcases List.mem_append.mp hn with z | z
        · exact h4 n z
        · have : n = ms := by simpa using z
          rw [this]; exact M)
  rw [Jik] at hl
  exact ⟨mss,x',y',e2,by omega,hb⟩
theorem Jy7 (x y : Int) (n : Nat) (most many alike : D) (d7 d8 : Option D) (mss : List (List Int)) (bs : List D) (hn : n ≤ 3) (hl : mss.length = n) (hM : ∀ ms ∈ mss,Marks ms) : ∃ (b : List St2) (x' y' : Int),
    Jge [some (.ref 0),some (.int n),some most,some many,some (encM true mss),some (.ref 1),some alike,d7,d8] [some [.int x,.int y],some bs] = some (b.map encS,[some [.int x',.int y'],some bs]) ∧ b.length = n ∧ ∀ p ∈ b,p.1 < p.2 ∧ -1000000000 ≤ p.1 ∧ p.2 ≤ 1000000000 := by
  have e : Jc5 (Jac (eVar 1) aNil) [some (.ref 0),some (.int n),some most,some many,some (encM true mss),some (.ref 1),some alike,d7,d8] [some [.int x,.int y],some bs] = some ((upD 0 n,[]),[some [.int x,.int y],some bs]) := by
    exact Jjb _ (by simp [Jaf,Jai,Jad,-List.map_map,-Option.map_bind]; rfl) (by simp) (by omega) (by omega)
  unfold Jge Jcs
  rw [e]
  simp only [Option.bind_some]
  obtain ⟨ys,S',e2,⟨b,x',y',rfl,rfl,hl,hb⟩⟩ := Jmt (w := []) (e0 := capE 1 [0,4] [some (.ref 0),some (.int n),some most,some many,some (encM true mss),some (.ref 1),some alike,d7,d8]) (g := Pat.sem (.nm 0)) (ds := upD 0 n) (S := [some [.int x,.int y],some bs])
    (f := (Jby Jbr (Jac (eVar 1) (Jac (eOp oIx (eVar 2) (eVar 0)) aNil))))
    (fun i ys S => ∃ (b : List St2) (x' y' : Int),ys = b.map encS ∧ S = [some [.int x',.int y'],some bs] ∧ b.length = min i 3 ∧ ∀ p ∈ b,p.1 < p.2 ∧ -1000000000 ≤ p.1 ∧ p.2 ≤ 1000000000)
    ⟨[],x,y,rfl,rfl,rfl,fun n hn => by simp at hn⟩ (fun i ys S ⟨ns,x',y',h1,h2,h3,h4⟩ => ⟨by simp,by rw [h1,List.length_map,h3]; omega⟩)
    (fun i d ys S hd ⟨b,x',y',h1,h2,h3,h4⟩ => by
      obtain ⟨hi,rfl⟩ := Jil hd
      obtain ⟨ms,f1,g1⟩ := Ji6 (F := fun ms => D.lst true (ms.map D.int)) (l := mss) (i := 0 + (i : Int)) (by omega) (by omega)
      obtain ⟨p,x2,y2,e3,q1,q2,q3⟩ := Jk7 x' y' false (hM ms (List.mem_of_getElem? g1))
      subst h1 h2
      simp only [Int.zero_add] at f1
      refine ⟨_,encS p,[some [.int x2,.int y2],some bs],rfl,?_,b ++ [p],x2,y2,by simp,rfl,by simp; omega,fun n hn => ?_⟩
      · simp [Jaf,Jap,Jai,Jad,capE,Ja7,oIx,VS.listOf,Jav,intsOf,den,denL,age,ageL,Ja4,Jax,List.replicate_succ,-List.map_map,-Option.map_bind,encM,e3,f1]
      · rcases List.mem_append.mp hn with z | z
        · exact h4 n z
        · have : n = p := by simpa using z
          rw [this]; exact ⟨q1,q2,q3⟩)
  rw [Jik] at hl
  exact ⟨b,x',y',e2,by omega,hb⟩
def absI (i : Int) : Int := if i < 0 then -i else i
def farS (p : St2) : Int := if absI p.2 > absI p.1 then absI p.2 else absI p.1
theorem Jy6 (r : VS.Env) (b : List St2) (S : Store) (h8 : r[8]? = some (some (encB b))) (hl : b.length ≤ 3) : Jgd r S = some ((b.map farS).map .int,S) := by
  have e : iSeq (eVar 8) r S = some ((b.map encS,[]),S) := by simp [Jaf,VS.listOf,Jav,VS.idOf,Jcd,-List.map_map,-Option.map_bind,h8,encB]
  unfold Jgd Jcs
  rw [e]
  simp only [Option.bind_some]
  have := Jjv (w := []) (e0 := capE 2 [] r) (g := Pat.sem (.tp [.nm 0,.nm 1])) (S := S) (f := eCB Jtu (Jac (eCB bAbs (Jac (eVar 0) aNil)) (Jac (eCB bAbs (Jac (eVar 1) aNil)) aNil)))
    (by simp) (fun d => match d with | .tup [.int l,.int h] => .int (farS (l,h)) | _ => .non) (b.map encS) (by simp; omega) (fun d hd => by
      obtain ⟨p,hp,rfl⟩ := List.mem_map.mp hd
      exact ⟨_,rfl,by simp [Jaf,Jai,Jad,Jb5,capE,Jtu,bAbs,List.replicate_succ,-List.map_map,-Option.map_bind,encS,farS,absI]⟩)
  rw [this]
  simp [encS,Function.comp_def]
theorem JBp {p : St2} (h : farS p ≤ 1000000000) : -1000000000 ≤ p.1 ∧ p.2 ≤ 1000000000 := by
  unfold farS absI at h
  repeat' split at h
  all_goals omega
structure Ok1 (n : Nat) (b : List St2) : Prop where
  len : b.length = n
  all : ∀ p ∈ b,p.1 < p.2 ∧ -1000000000 ≤ p.1 ∧ p.2 ≤ 1000000000
theorem Jr7 {m : Bool} : ∀ (mss : List (List Int)),Jax (mss.map fun ms => D.lst m (ms.map D.int)) = true
  | [] => rfl
  | ms :: r => by rw [List.map_cons,Jax,Ja4,Jir,Jr7 r]; rfl
theorem JB0 {m : Bool} : ∀ (mss : List (List Int)),ageL (mss.map fun ms => D.lst m (ms.map D.int)) = mss.map fun ms => D.lst false (ms.map D.int)
  | [] => by rw [List.map_nil,ageL]; rfl
  | ms :: r => by rw [List.map_cons,ageL,age,Joj,JB0 r]; rfl
theorem Jsn {ns : List Int} (h : ns ≠ []) : ∃ m,maxI ns = some m := by
  cases ns with
  | nil => exact absurd rfl h
  | cons a r => exact ⟨_,rfl⟩
theorem JBo (x y : Int) (n : Nat) (most many : D) (alike k : Int) (d8 : Option D) (mss : List (List Int)) (bs : List (List St2)) (h1 : 1 ≤ n) (hn : n ≤ 3) (hl : mss.length = n) (hM : ∀ ms ∈ mss,Marks ms) (hb : ∀ b ∈ bs,Ok1 n b) (few : bs.length ≤ 20) : ∃ (d8' : Option D) (bs' : List (List St2)) (x' y' : Int),
    Jgg [some (.ref 0),some (.int n),some most,some many,some (encM true mss),some (.ref 1),some (.int alike),some (.int k),d8] [some [.int x,.int y],some (bs.map encB)] = some (.nx,[some (.ref 0),some (.int n),some most,some many,some (encM true mss),some (.ref 1),some (.int alike),some (.int k),d8'],[some [.int x',.int y'],some (bs'.map encB)])
    ∧ bs'.length ≤ bs.length + 1 ∧ ∀ b ∈ bs',Ok1 n b := by
  obtain ⟨b,x1,y1,e1,bl,hb1⟩ := Jy7 x y n most many (.int alike) (some (.int k)) d8 mss (bs.map encB) hn hl hM
  -- behind the choice of a box
  have fin : ∀ (c : List St2) (x2 y2 : Int),c.length = n → (∀ p ∈ c,p.1 < p.2) → ∃ (d8' : Option D) (bs' : List (List St2)) (x' y' : Int),
      (sIf (tVal (eOp oLe (eCB Jq9 (Jac (eFrz Jgd) aNil)) (eOp oPow (eC (.int 10)) (eC (.int 9))))) (sExp (Jjr Jfe (eVar 5) (Jac (eVar 8) aNil))) sNil)
        [some (.ref 0),some (.int n),some most,some many,some (encM true mss),some (.ref 1),some (.int alike),some (.int k),some (encB c)] [some [.int x2,.int y2],some (bs.map encB)] = some (.nx,[some (.ref 0),some (.int n),some most,some many,some (encM true mss),some (.ref 1),some (.int alike),some (.int k),d8'],[some [.int x',.int y'],some (bs'.map encB)])
      ∧ bs'.length ≤ bs.length + 1 ∧ ∀ b ∈ bs',Ok1 n b := fun c x2 y2 cl hc => by
    have e3 := Jy6 [some (.ref 0),some (.int n),some most,some many,some (encM true mss),some (.ref 1),some (.int alike),some (.int k),some (encB c)] c [some [.int x2,.int y2],some (bs.map encB)] rfl (by omega)
    obtain ⟨m,hm⟩ := Jsn (ns := c.map farS) (by intro z; have := congrArg List.length z; simp at this; rw [this] at cl; simp at cl; omega)
    by_cases hle : m ≤ 1000000000
    · refine ⟨some (encB c),bs ++ [c],x2,y2,?_,by simp,fun d hd => ?_⟩
      · have : bs.length < 1000000 := by omega
        simp [Jb7,Jht,Jbi,Jaf,Jbj,Jap,Jai,Jad,Jb5,Jas,Jat,Jhj,oI,yes2,cPow,oPow,oLe,Jq9,VS.listOf,Jfe,-List.map_map,-Option.map_bind,e3,hm,hle,this]
      · rcases List.mem_append.mp hd with z | z
        · exact hb d z
        · have : d = c := by simpa using z
          subst this
          refine ⟨cl,fun p hp => ?_⟩
          have := (Jso hm).2 (farS p) (List.mem_map_of_mem hp)
          have := JBp (p := p) (by omega)
          exact ⟨hc p hp,this.1,this.2⟩
    · refine ⟨some (encB c),bs,x2,y2,?_,by omega,hb⟩
      simp [Jb7,Jht,Jbi,Jaf,Jbj,Jap,Jai,Jad,Jb5,Jas,Jat,Jhj,oI,yes2,cPow,oPow,oLe,Jq9,VS.listOf,Jfe,-List.map_map,-Option.map_bind,e3,hm,hle]
  have s1 : (sSet 8 (eCB bTup (Jac (eFrz Jge) aNil))) [some (.ref 0),some (.int n),some most,some many,some (encM true mss),some (.ref 1),some (.int alike),some (.int k),d8] [some [.int x,.int y],some (bs.map encB)] = some (.nx,[some (.ref 0),some (.int n),some most,some many,some (encM true mss),some (.ref 1),some (.int alike),some (.int k),some (encB b)],[some [.int x1,.int y1],some (bs.map encB)]) := by
    simp [Jaz,Jai,Jad,Jb5,Jat,bTup,VS.listOf,Jav,-List.map_map,-Option.map_bind,e1,encB]
  have hne : eqP true [some [.int x1,.int y1],some (bs.map encB)] (.ref 1) (.lst true []) = some (.bl (true ^^ (bs.map pB).isEmpty)) := Jmp 3 (Jpr rfl) (Jj9 0 bs) (by decide)
  unfold Jgg
  rw [Jbq s1]
  by_cases hbs : bs = []
  · obtain ⟨d8',bs',x',y',e,q1,q2⟩ := fin b x1 y1 bl fun p hp => (hb1 p hp).1
    refine ⟨d8',bs',x',y',?_,q1,q2⟩
    rw [Jbq (env1 := [some (.ref 0),some (.int n),some most,some many,some (encM true mss),some (.ref 1),some (.int alike),some (.int k),some (encB b)]) (S1 := [some [.int x1,.int y1],some (bs.map encB)])]
    · exact e
    · subst hbs
      simp only [List.map_nil] at hne
      simp [Jaz,Jb7,Jbi,Jaf,Jbj,Jap,Jai,Jad,Jb5,Jas,Jjx,Jat,Ja7,oI,yes2,oLt,oEq,oIx,bLen,VS.listOf,Jav,den,denL,age,ageL,Ja4,Jax,-List.map_map,-Option.map_bind,hne]
  · obtain ⟨r,x2,y2,e2,r0,r1⟩ := Jda x1 y1 3 (by decide) (by decide)
    have hne' : eqP true [some [.int x1,.int y1],some (bs.map encB)] (.ref 1) (.lst true []) = some (.bl true) := by
      rw [hne]
      cases bs with
      | nil => exact absurd rfl hbs
      | cons a r => rfl
    have pos : 0 < bs.length := List.length_pos_iff.mpr hbs
    by_cases hr : r < alike
    · obtain ⟨j,x3,y3,e3,j0,j1⟩ := Jda x2 y2 (bs.length : Int) (by omega) (by omega)
      obtain ⟨c,f1,g1⟩ := Ji6 (F := encB) (l := bs) (i := j) j0 (by omega)
      have oc := hb c (List.mem_of_getElem? g1)
      obtain ⟨c',x4,y4,e4,cl,hc⟩ := Jyi x3 y3 c false mss (by rw [oc.len]; exact h1) (by rw [oc.len]; exact hn) oc.all (by rw [oc.len]; exact hl) hM
      obtain ⟨d8',bs',x',y',e,q1,q2⟩ := fin c' x4 y4 (by rw [cl,oc.len]) hc
      refine ⟨d8',bs',x',y',?_,q1,q2⟩
      have dm : ∀ S : Store,den 0 S (encM true mss) = some (encM true mss) := fun S => by
        unfold encM
        rw [den,Jbb 0 S]
        · rfl
        · exact Jr7 mss
      have am : age (encM true mss) = encM false mss := by
        unfold encM
        rw [age,JB0]
      have pm : Ja4 (encM true mss) = true := by unfold encM; rw [Ja4]; exact Jr7 mss
      rw [Jbq (env1 := [some (.ref 0),some (.int n),some most,some many,some (encM true mss),some (.ref 1),some (.int alike),some (.int k),some (encB c')]) (S1 := [some [.int x4,.int y4],some (bs.map encB)])]
      · exact e
      · simp [Jaz,Jb7,Jbi,Jaf,Jbj,Jap,Jai,Jad,Jb5,Jas,Jjx,Jat,Ja7,oI,yes2,oLt,oEq,oIx,bLen,VS.listOf,Jav,intsOf,den,denL,age,ageL,Ja4,Jax,-List.map_map,-Option.map_bind,hne',e2,hr,e3,f1,e4,dm,am,pm]
    · obtain ⟨d8',bs',x',y',e,q1,q2⟩ := fin b x2 y2 bl fun p hp => (hb1 p hp).1
      refine ⟨d8',bs',x',y',?_,q1,q2⟩
      rw [Jbq (env1 := [some (.ref 0),some (.int n),some most,some many,some (encM true mss),some (.ref 1),some (.int alike),some (.int k),some (encB b)]) (S1 := [some [.int x2,.int y2],some (bs.map encB)])]
      · exact e
      · simp [Jaz,Jb7,Jbi,Jaf,Jbj,Jap,Jai,Jad,Jb5,Jas,Jjx,Jat,Ja7,oI,yes2,oLt,oEq,oIx,bLen,VS.listOf,Jav,intsOf,den,denL,age,ageL,Ja4,Jax,-List.map_map,-Option.map_bind,hne',e2,hr]
theorem JBn (x y : Int) (n : Nat) (most : D) (many alike : Int) (mss : List (List Int)) (h1 : 1 ≤ n) (hn : n ≤ 3) (hl : mss.length = n) (hM : ∀ ms ∈ mss,Marks ms) (m0 : 0 ≤ many) (m1 : many ≤ 20) : ∃ (d7 d8 : Option D) (bs : List (List St2)) (x' y' : Int),
    Jhz [some (.ref 0),some (.int n),some most,some (.int many),some (encM true mss),some (.ref 1),some (.int alike),none,none] [some [.int x,.int y],some []] = some (.nx,[some (.ref 0),some (.int n),some most,some (.int many),some (encM true mss),some (.ref 1),some (.int alike),d7,d8],[some [.int x',.int y'],some (bs.map encB)])
    ∧ bs.length ≤ many.toNat ∧ ∀ b ∈ bs,Ok1 n b := by
  have e : Jc5 (Jac (eVar 3) aNil) [some (.ref 0),some (.int n),some most,some (.int many),some (encM true mss),some (.ref 1),some (.int alike),none,none] [some [.int x,.int y],some []] = some ((upD 0 many.toNat,[]),[some [.int x,.int y],some []]) :=
    Jjb _ (by simp [Jaf,Jai,Jad,-List.map_map,-Option.map_bind]) rfl (by omega) (by omega)
  unfold Jhz
  rw [Jep,e]
  simp only [Option.bind_some]
  obtain ⟨env',S',e2,⟨d7,d8,bs,x',y',rfl,rfl,hb1,hb2⟩⟩ := Jej (w := []) (g := Pat.sem (.nm 7)) (b := Jgg) (ds := upD 0 many.toNat) (env := [some (.ref 0),some (.int n),some most,some (.int many),some (encM true mss),some (.ref 1),some (.int alike),none,none]) (S := [some [.int x,.int y],some []])
    (fun i env S => ∃ (d7 d8 : Option D) (bs : List (List St2)) (x' y' : Int),env = [some (.ref 0),some (.int n),some most,some (.int many),some (encM true mss),some (.ref 1),some (.int alike),d7,d8] ∧ S = [some [.int x',.int y'],some (bs.map encB)] ∧ bs.length ≤ min i many.toNat ∧ ∀ b ∈ bs,Ok1 n b)
    ⟨none,none,[],x,y,rfl,rfl,by simp,fun b hb => by simp at hb⟩ (fun i env S _ => by simp) (fun i d env S hd ⟨d7,d8,bs,x',y',h1',h2',h3',h4'⟩ => by
      obtain ⟨hi,rfl⟩ := Jil hd
      subst h1' h2'
      obtain ⟨d8',bs',x2,y2,e3,q1,q2⟩ := JBo x' y' n most (.int many) alike (0 + i) d8 mss bs h1 hn hl hM h4' (by omega)
      exact ⟨_,by rw [Jcp]; rfl,_,_,e3,_,d8',bs',x2,y2,rfl,rfl,by omega,q2⟩)
  rw [Jik] at hb1
  exact ⟨d7,d8,bs,x',y',e2,by omega,hb2⟩
theorem Jo8 (x y : Int) (n most : Nat) (h1 : 1 ≤ n) (hn : n ≤ 3) (hm : most ≤ 20) : ∃ (bs : List (List St2)) (x' y' : Int),Jcn [x,y] [.int n,.int most] = some (encH true n bs,[x',y']) ∧ bs.length ≤ most ∧ ∀ b ∈ bs,Ok1 n b := by
  obtain ⟨r1,x1,y1,e1,p1,p2⟩ := Jda x y ((if (4 : Int) < (most : Int) then (4 : Int) else (most : Int)) + 1) (by split <;> omega) (by split <;> omega)
  obtain ⟨r2,x2,y2,e2,p3,p4⟩ := Jda x1 y1 ((most : Int) + 1) (by omega) (by omega)
  obtain ⟨r3,x3,y3,e3,p5,p6⟩ := Jda x2 y2 3 (by decide) (by decide)
  obtain ⟨many,f1,m0,m1⟩ : ∃ many : Int,atI [D.int r1,D.int r2,D.int most] r3 = some (.int many) ∧ 0 ≤ many ∧ many ≤ most := by
    have : r3 = 0 ∨ r3 = 1 ∨ r3 = 2 := by omega
    rcases this with rfl | rfl | rfl
    · exact ⟨r1,by simp,p1,by split at p2 <;> omega⟩
    · exact ⟨r2,by simp,p3,by omega⟩
    · exact ⟨most,by simp,by omega,by omega⟩
  obtain ⟨mss,x4,y4,e4,hl,hM⟩ := Jy8 x3 y3 n many (.int most) hn m0 (by omega)
  obtain ⟨al,x5,y5,e5,_,_⟩ := Jda x4 y4 3 (by decide) (by decide)
  obtain ⟨d7,d8,bs,x6,y6,e6,hb1,hb2⟩ := JBn x5 y5 n (.int most) many al mss h1 hn hl hM m0 (by omega)
  refine ⟨bs,x6,y6,?_,by omega,hb2⟩
  have s1 : (sSet 3 (eOp oIx (eFrz (Jac (Jby Jal (Jac (eVar 0) (Jac (eOp oAdd (eCB Jtt (Jac (eVar 2) (Jac (eC (.int 4)) aNil))) (eC (.int 1))) aNil))) (Jac (Jby Jal (Jac (eVar 0) (Jac (eOp oAdd (eVar 2) (eC (.int 1))) aNil))) (Jac (eVar 2) aNil)))) (Jby Jal (Jac (eVar 0) (Jac (eC (.int 3)) aNil))))) [some (.ref 0),some (.int n),some (.int most),none,none,none,none,none,none] [some [.int x,.int y]] = some (.nx,[some (.ref 0),some (.int n),some (.int most),some (.int many),none,none,none,none,none],[some [.int x3,.int y3]]) := by
    simp [Jaz,Jaf,Jbj,Jap,Jai,Jad,Jb5,Jat,Ja7,oAdd,oIx,Jtt,VS.listOf,Jav,intsOf,den,denL,age,ageL,Ja4,Jax,-List.map_map,-Option.map_bind,e1,e2,e3,f1]
  have s2 : (sSet 4 (eFrz Jgf)) [some (.ref 0),some (.int n),some (.int most),some (.int many),none,none,none,none,none] [some [.int x3,.int y3]] = some (.nx,[some (.ref 0),some (.int n),some (.int most),some (.int many),some (encM true mss),none,none,none,none],[some [.int x4,.int y4]]) := by
    simp [Jaz,Jat,-List.map_map,-Option.map_bind,e4,encM]
  have s3 : (sSet 5 (eSto aNil)) [some (.ref 0),some (.int n),some (.int most),some (.int many),some (encM true mss),none,none,none,none] [some [.int x4,.int y4]] = some (.nx,[some (.ref 0),some (.int n),some (.int most),some (.int many),some (encM true mss),some (.ref 1),none,none,none],[some [.int x4,.int y4],some []]) := by
    simp [Jaz,Jai,Ji3,-List.map_map,-Option.map_bind]
  have s4 : (sSet 6 (Jby Jal (Jac (eVar 0) (Jac (eC (.int 3)) aNil)))) [some (.ref 0),some (.int n),some (.int most),some (.int many),some (encM true mss),some (.ref 1),none,none,none] [some [.int x4,.int y4],some []] = some (.nx,[some (.ref 0),some (.int n),some (.int most),some (.int many),some (encM true mss),some (.ref 1),some (.int al),none,none],[some [.int x5,.int y5],some []]) := by
    simp [Jaz,Jaf,Jbj,Jai,Jad,Ja7,intsOf,den,denL,age,ageL,Ja4,Jax,-List.map_map,-Option.map_bind,e5]
  have run : Jiz [some (.ref 0),some (.int n),some (.int most),none,none,none,none,none,none] [some [.int x,.int y]] = some (.ret (.tup [.int n,.ref 1]),[some (.ref 0),some (.int n),some (.int most),some (.int many),some (encM true mss),some (.ref 1),some (.int al),d7,d8],[some [.int x6,.int y6],some (bs.map encB)]) := by
    unfold Jiz
    rw [Jbq s1,Jbq s2,Jbq s3,Jbq s4,Jbq e6]
    simp [Ja2,Jaf,Jai,Jad,Jb1,-List.map_map,-Option.map_bind]
  unfold Jcn
  rw [Jc8]
  simp only [List.length_cons,List.length_nil,List.map_cons,List.map_nil,Nat.reduceAdd,Nat.reduceSub,List.replicate_succ,List.replicate_zero,List.cons_append,List.nil_append,if_true]
  rw [run]
  simp [intsOf,den,denL,-List.map_map,-Option.map_bind,encH]
theorem Jm6 (x y : Int) : ∃ (n : Nat) (bs : List (List St2)) (x' y' : Int),Jbe [x,y] [] = some (encH true n bs,[x',y']) ∧ Good n bs := by
  obtain ⟨r,x1,y1,e1,p1,p2⟩ := Jda x y 3 (by decide) (by decide)
  have : r = 0 ∨ r = 1 ∨ r = 2 := by omega
  rcases this with rfl | rfl | rfl
  · obtain ⟨bs,x2,y2,e2,hl,hb⟩ := Jo8 x1 y1 1 20 (by decide) (by decide) (by decide)
    have e3 : Jcn [x1,y1] [.int 1,.int 20] = some (encH true 1 bs,[x2,y2]) := e2
    refine ⟨1,bs,x2,y2,?_,.inl rfl,hl,fun b h => ⟨(hb b h).len,(hb b h).all⟩⟩
    simp [Jbe,Jd6,Jbu,Jaz,Ja2,Jaf,Jbj,Jap,Jai,Jad,Jat,Ja7,oAdd,oIx,VS.listOf,Jav,Jc8,intsOf,den,denL,age,ageL,Ja4,Jax,List.replicate_succ,-List.map_map,-Option.map_bind,e1,e3]
  · obtain ⟨bs,x2,y2,e2,hl,hb⟩ := Jo8 x1 y1 2 10 (by decide) (by decide) (by decide)
    have e3 : Jcn [x1,y1] [.int 2,.int 10] = some (encH true 2 bs,[x2,y2]) := e2
    refine ⟨2,bs,x2,y2,?_,.inr (.inl rfl),hl,fun b h => ⟨(hb b h).len,(hb b h).all⟩⟩
    simp [Jbe,Jd6,Jbu,Jaz,Ja2,Jaf,Jbj,Jap,Jai,Jad,Jat,Ja7,oAdd,oIx,VS.listOf,Jav,Jc8,intsOf,den,denL,age,ageL,Ja4,Jax,List.replicate_succ,-List.map_map,-Option.map_bind,e1,e3]
  · obtain ⟨bs,x2,y2,e2,hl,hb⟩ := Jo8 x1 y1 3 6 (by decide) (by decide) (by decide)
    have e3 : Jcn [x1,y1] [.int 3,.int 6] = some (encH true 3 bs,[x2,y2]) := e2
    refine ⟨3,bs,x2,y2,?_,.inr (.inr rfl),hl,fun b h => ⟨(hb b h).len,(hb b h).all⟩⟩
    simp [Jbe,Jd6,Jbu,Jaz,Ja2,Jaf,Jbj,Jap,Jai,Jad,Jat,Ja7,oAdd,oIx,VS.listOf,Jav,Jc8,intsOf,den,denL,age,ageL,Ja4,Jax,List.replicate_succ,-List.map_map,-Option.map_bind,e1,e3]
end W23
end
section
set_option Elab.async false
set_option maxRecDepth 10000
set_option linter.all false
set_option maxHeartbeats 4000000
namespace W23
open PySem L2 VS
theorem Jd8 {sem : PSem} {a : ASem} {env : VS.Env} {S S' : Store} {ds es : List D} {r : D} (h : a env S = some (ds,S')) (hp : Jax ds = true) (ha : ageL ds = es) (hr : sem es = some r) : Jbc sem a env S = some (r,S') := by
  rw [Jdq,h]
  simp only [Option.bind_some,Jbb 0 S' hp,ha,hr,hp,Bool.true_or,if_true]
def Jdz (bs : List (List St2)) (w : Nat) : List Int := bs.map fun b => (b.getD w (0,0)).1
def Jcq (bs : List (List St2)) (w : Nat) : List Int := bs.map fun b => (b.getD w (0,0)).2
theorem col {bs : List (List St2)} {w : Nat} (hw : ∀ b ∈ bs,w < b.length) (hl : bs.length ≤ 1000) (S : Store) (e0 : VS.Env) (h0 : ∀ d : D,(e0.set 0 (some d))[0]? = some (some d) ∧ (e0.set 0 (some d))[1]? = some (some (.int w))) :
    Jf0 [] e0 (Pat.sem (.nm 0)) tYes (eOp oIx (eOp oIx (eVar 0) (eVar 1)) (eC (.int 0))) (bs.map encB) [] S = some ((Jdz bs w).map .int,S) ∧
    Jf0 [] e0 (Pat.sem (.nm 0)) tYes (eOp oIx (eOp oIx (eVar 0) (eVar 1)) (eC (.int 1))) (bs.map encB) [] S = some ((Jcq bs w).map .int,S) := by
  have key : ∀ b ∈ bs,atI (b.map encS) (w : Int) = some (encS (b.getD w (0,0))) := fun b hb => by
    have h := hw b hb
    refine Jh3 ?_
    rw [List.getElem?_map,List.getElem?_eq_getElem h]
    simp [h]
  constructor
  · rw [Jh1 (by simp) encB (fun b => .int (b.getD w (0,0)).1) bs (by omega)]
    · rw [Jdz,List.map_map]; rfl
    · intro b hb
      refine ⟨_,Jcp _ _ _,?_⟩
      have ha := key b hb
      simp only [encS] at ha
      simp [Jaf,Jbj,Jap,oIx,VS.listOf,Jav,-List.map_map,-Option.map_bind,h0,encB,ha]
  · rw [Jh1 (by simp) encB (fun b => .int (b.getD w (0,0)).2) bs (by omega)]
    · rw [Jcq,List.map_map]; rfl
    · intro b hb
      refine ⟨_,Jcp _ _ _,?_⟩
      have ha := key b hb
      simp only [encS] at ha
      simp [Jaf,Jbj,Jap,oIx,VS.listOf,Jav,-List.map_map,-Option.map_bind,h0,encB,ha]

theorem Jmq {cs : List (List St2)} {w : Nat} (hl : cs.length ≤ 20) : (SetP.once (Jdz cs w ++ Jcq cs w)).length < 64 ∧ (Jdz cs w ++ Jcq cs w).length < 1000 := by
  have h1 := (SetP.Jhd (Jdz cs w ++ Jcq cs w)).2.1
  have h2 : (Jdz cs w ++ Jcq cs w).length = cs.length + cs.length := by simp [Jdz,Jcq]
  omega
theorem Jn7 (a b : List Int) : intsOf (a.map D.int ++ b.map D.int) = some (a ++ b) := by rw [← List.map_append]; exact Jhf _
theorem Jzj {m : Bool} {cs : List (List St2)} {w : Nat} (hw : ∀ b ∈ cs,w < b.length) (hl : cs.length ≤ 20) : Jc7 [.lst m (cs.map encB),.int w] = some (.lst true ((Jea (Jdz cs w ++ Jcq cs w)).map .int)) := by
  obtain ⟨c1,c2⟩ := col hw (by omega) [] [none,some (.int w)] fun d => ⟨rfl,rfl⟩
  have e : iSeq (eVar 0) [some (.lst m (cs.map encB)),some (.int w)] [] = some ((cs.map encB,[]),[]) := by simp [Jaf,VS.listOf,Jav,VS.idOf,Jcd,-List.map_map,-Option.map_bind]
  have e1 : Jgi [some (.lst m (cs.map encB)),some (.int w)] [] = some ((Jdz cs w).map .int,[]) := by
    unfold Jgi Jcs
    rw [e]
    exact c1
  have e2 : Jgh [some (.lst m (cs.map encB)),some (.int w)] [] = some ((Jcq cs w).map .int,[]) := by
    unfold Jgh Jcs
    rw [e]
    exact c2
  obtain ⟨h1,h2⟩ := Jmq (w := w) hl
  have h3 : (Jdz cs w).length + (Jcq cs w).length ≤ 1000000 := by simp at h2; omega
  have h4 : (Jdz cs w).length + (Jcq cs w).length < 1000 := by simpa using h2
  simp [Jc7,Jjh,Ja2,Jap,Jat,Jdt,oAdd,VS.listOf,Jcr,den,-List.map_map,-Option.map_bind,e1,e2,Jn7,h1,h3,h4]
theorem Jph : ∀ a b : List Int,zipD (a.map D.int) (b.map D.int) = (a.zip b).map encS
  | [],_ => by simp [zipD]
  | _ :: _,[] => by simp [zipD]
  | p :: a,q :: b => by simp [zipD,Jph a b,encS]
theorem Jm4 (E : List Int) : zipD (E.map D.int) (E.map D.int).tail = (steps E).map encS := by
  rw [← List.map_tail,Jph]; rfl
theorem Jgq (E : List Int) : (steps E).length ≤ E.length := by simp [steps]
theorem Jug {m : Bool} {cs : List (List St2)} {w : Nat} (hw : ∀ b ∈ cs,w < b.length) (hl : cs.length ≤ 20) (hne : cs ≠ []) : Jch [.lst m (cs.map encB),.int w] = some (.lst true ((steps (Jea (Jdz cs w ++ Jcq cs w))).map encS)) := by
  have h0 := Jzj (m := false) hw hl
  have hl1 := Jgs (Jdz cs w ++ Jcq cs w)
  obtain ⟨_,h2⟩ := Jmq (w := w) hl
  have pos : 1 ≤ (Jea (Jdz cs w ++ Jcq cs w)).length := by
    cases cs with
    | nil => exact absurd rfl hne
    | cons b r =>
      have : (b.getD w (0,0)).1 ∈ Jea (Jdz (b :: r) w ++ Jcq (b :: r) w) := Jh6.mpr (by simp [Jdz])
      exact List.length_pos_of_mem this
  generalize Jea (Jdz cs w ++ Jcq cs w) = E at *
  have c := Jms (xs := E.map D.int) (a := 1) (by decide) (by simp; omega)
  have z := Jm4 E
  have hz : (steps E).length ≤ 1000000 := by have := Jgq E; omega
  have c' : cut (E.map D.int) (some 1) none = (E.map D.int).drop 1 := c
  have hd : ∀ (k : Nat) (S : Store),denL k S ((steps E).map encS) = some ((steps E).map encS) := fun k S => Jbb k S (Jbg (Jf5 _ fun p _ => Jd5 p))
  simp [Jch,Jid,Jbu,Jaz,Ja2,Jaf,Jbj,Jai,Jad,Jew,Jev,Jig,Jdq,Jkr,oSl,VS.listOf,Jav,Jcr,den,denL,age,ageL,Ja4,Jax,List.replicate_succ,-List.map_map,-Option.map_bind,h0,c',z,hz,hd]
def encN (m : Bool) (ns : List Nat) : D := .lst m (ns.map fun (i : Nat) => D.int i)
def encC (c : List St2 × List Nat) : D := .tup [encB c.1,encN false c.2]
theorem Jf2 (m : Bool) (ns : List Nat) : Ja4 (encN m ns) = true := by
  have := Jir (ns.map fun (i : Nat) => (i : Int))
  rw [List.map_map] at this
  rw [encN,Ja4]; exact this
theorem Jqm (m : Bool) (ns : List Nat) : age (encN m ns) = encN false ns := by
  have := Joj (ns.map fun (i : Nat) => (i : Int))
  rw [List.map_map] at this
  rw [encN,age]
  exact congrArg (D.lst false) this
theorem Jr6 (c : List St2 × List Nat) : Ja4 (encC c) = true := by
  rw [encC,Ja4,Jax,Jax,Jax,Jnf,Jf2]; rfl
theorem Jhc : ∀ cs : List (List St2 × List Nat),Jax (cs.map encC) = true
  | [] => rfl
  | c :: r => by rw [List.map_cons,Jax,Jr6,Jhc r]; rfl
theorem Jw5 {n : Nat} {bs : List (List St2)} (hb : ∀ b ∈ bs,b.length = n) {i w : Nat} (hi : i < bs.length) (hw : w < n) : atI (bs.map encB) (i : Int) = some (encB (bs.getD i [])) ∧ atI ((bs.getD i []).map encS) (w : Int) = some (encS (at1 bs i w)) := by
  have h1 : bs[i]? = some bs[i] := List.getElem?_eq_getElem hi
  have h2 : bs.getD i [] = bs[i] := by rw [List.getD_eq_getElem?_getD,h1]; rfl
  have h3 : w < bs[i].length := by rw [hb _ (List.getElem_mem hi)]; exact hw
  refine ⟨Jh3 (by rw [List.getElem?_map,h1,h2]; rfl),Jh3 ?_⟩
  rw [at1,h2,List.getElem?_map,List.getElem?_eq_getElem h3,List.getD_eq_getElem?_getD,List.getElem?_eq_getElem h3]
  rfl
theorem Jzf (rec : PSem) {n : Nat} {m m' : Bool} {bs : List (List St2)} (hb : ∀ b ∈ bs,b.length = n) (hn : 0 < n) {ns : List Nat} (hi : ∀ i ∈ ns,i < bs.length) (hl : ns.length ≤ 20) (r : VS.Env) (S : Store) :
    Je1 rec (some (.lst m (bs.map encB)) :: some (encN m' ns) :: r) S = some ((ns.map fun i => bs.getD i []).map encB,S) := by
  unfold Je1 Jcs
  have e : iSeq (eVar 1) (some (.lst m (bs.map encB)) :: some (encN m' ns) :: r) S = some ((ns.map fun (i : Nat) => D.int i,[]),S) := by simp [Jaf,VS.listOf,Jav,VS.idOf,Jcd,-List.map_map,-Option.map_bind,encN]
  rw [e]
  simp only [Option.bind_some]
  rw [Jh1 (by simp) (fun (i : Nat) => D.int i) (fun i => encB (bs.getD i [])) ns (by omega)]
  · rw [List.map_map]; rfl
  · intro i hi'
    obtain ⟨h1,_⟩ := Jw5 hb (hi i hi') hn
    exact ⟨_,Jcp _ _ _,by simp [Jaf,Jap,capE,oIx,VS.listOf,Jav,List.replicate_succ,-List.map_map,-Option.map_bind,h1]⟩
theorem Jze (rec : PSem) {n : Nat} {m m' : Bool} {bs : List (List St2)} (hb : ∀ b ∈ bs,b.length = n) {ns : List Nat} (hi : ∀ i ∈ ns,i < bs.length) (hl : ns.length ≤ 20) {w : Nat} (hw : w < n) (x : Int) (z3 z4 : Option D) (r : VS.Env) (S : Store) :
    Je0 rec (some (.lst m (bs.map encB)) :: some (encN m' ns) :: some (.int w) :: z3 :: z4 :: some (.int x) :: r) S = some ((filt bs w x ns).map (fun (i : Nat) => D.int i),S) := by
  unfold Je0 Jcs
  have e : iSeq (eVar 1) (some (.lst m (bs.map encB)) :: some (encN m' ns) :: some (.int w) :: z3 :: z4 :: some (.int x) :: r) S = some ((ns.map fun (i : Nat) => D.int i,[]),S) := by simp [Jaf,VS.listOf,Jav,VS.idOf,Jcd,-List.map_map,-Option.map_bind,encN]
  rw [e]
  simp only [Option.bind_some]
  rw [Jh2 (by simp) (fun (i : Nat) => D.int i) (fun i => inS (at1 bs i w) x) (fun i => .int i) _ _ (by simp; omega)]
  · rfl
  · intro i hi'
    obtain ⟨h1,h2⟩ := Jw5 hb (hi i hi') hw
    refine ⟨_,Jcp _ _ _,?_,fun _ => by simp [Jaf,capE,List.replicate_succ,-List.map_map,-Option.map_bind]⟩
    simp only [encS] at h2
    generalize bs.getD i [] = B at *
    generalize ((w : Nat) : Int) = w' at *
    generalize ((i : Nat) : Int) = i' at *
    by_cases g : (at1 bs i w).1 ≤ x <;> simp [Jaf,Jbj,Jap,Jtc,Jas,capE,oI,yes2,oLt,oLe,oIx,VS.listOf,Jav,List.replicate_succ,-List.map_map,-Option.map_bind,h1,h2,encB,inS,g]
theorem Jlx {bs : List (List St2)} : ∀ (k w : Nat) (ns : List Nat),ns.length ≤ 20 → (Jbd bs k w ns).length ≤ 40 ^ k
  | 0,w,ns,_ => by rw [Jbd]; split <;> simp
  | k + 1,w,ns,hl => by
    rw [Jbd]
    split
    · simp
    · have h1 : (steps (Jbx bs w ns)).length ≤ 40 := by
        have := Jgq (Jbx bs w ns)
        have h2 := Jgs (ns.map (fun i => (at1 bs i w).1) ++ ns.map (fun i => (at1 bs i w).2))
        rw [List.length_append,List.length_map,List.length_map] at h2
        unfold Jbx at this ⊢
        omega
      have h2 : ∀ l : List St2,(l.flatMap fun p => (Jbd bs k (w + 1) (filt bs w p.1 ns)).map fun c => (p :: c.1,c.2)).length ≤ l.length * 40 ^ k := fun l => by
        induction l with
        | nil => simp
        | cons p l ih =>
          rw [List.flatMap_cons,List.length_append,List.length_map,List.length_cons,Nat.add_mul,Nat.one_mul]
          have := Jlx (bs := bs) k (w + 1) (filt bs w p.1 ns) (Nat.le_trans (List.length_filter_le _ _) hl)
          omega
      have h3 := h2 (steps (Jbx bs w ns))
      have h4 := Nat.mul_le_mul_right (40 ^ k) h1
      rw [Nat.pow_succ,Nat.mul_comm]
      omega
end W23
end
section
set_option Elab.async false
set_option maxRecDepth 10000
set_option linter.all false
set_option maxHeartbeats 4000000
namespace W23
open PySem L2 VS
theorem Jzg (rec : PSem) (e0 e1 e2 e3 z7 : Option D) (p : St2) (c : List St2 × List Nat) (acc : List D) (hl : acc.length < 1000000) (hc : c.1.length ≤ 3) :
    Je3 rec [e0,e1,e2,e3,some (.ref 0),some (.int p.1),some (.int p.2),z7,some (encB c.1),some (encN false c.2)] [some acc] = some (.nx,[e0,e1,e2,e3,some (.ref 0),some (.int p.1),some (.int p.2),z7,some (encB c.1),some (encN false c.2)],[some (acc ++ [encC (p :: c.1,c.2)])]) := by
  have h1 : 1 + c.1.length ≤ 1000000 := by omega
  have h2 : c.1.length + 1 ≤ 1000000 := by omega
  have h3 : c.1.length ≤ 999999 := by omega
  simp [Je3,Jht,Jaf,Jap,Jai,Jad,Jb1,Jhj,oAdd,VS.listOf,Jfe,-List.map_map,-Option.map_bind,hl,h1,h2,h3,encB,encC,encS]
theorem Jzd (rec : PSem) {n w : Nat} {bs : List (List St2)} {there : List Nat} {cs : List (List St2 × List Nat)} (hrec : rec [.lst false (bs.map encB),encN false there,.int ((w : Int) + 1),.int n] = some (.lst true (cs.map encC))) (hcs : ∀ c ∈ cs,c.1.length ≤ 3) (NS : D) (p : St2) (z8 z9 : Option D) (acc : List D) (hl : acc.length + cs.length ≤ 999999) :
    ∃ z8' z9',Jgk rec [some (.lst false (bs.map encB)),some NS,some (.int w),some (.int n),some (.ref 0),some (.int p.1),some (.int p.2),some (encN true there),z8,z9] [some acc] =
      some (.nx,[some (.lst false (bs.map encB)),some NS,some (.int w),some (.int n),some (.ref 0),some (.int p.1),some (.int p.2),some (encN true there),z8',z9'],[some (acc ++ (cs.map fun c => (p :: c.1,c.2)).map encC)]) := by
  have e : iSeq (Jbc rec (Jac (eVar 0) (Jac (eVar 7) (Jac (eOp oAdd (eVar 2) (eC (.int 1))) (Jac (eVar 3) aNil))))) [some (.lst false (bs.map encB)),some NS,some (.int w),some (.int n),some (.ref 0),some (.int p.1),some (.int p.2),some (encN true there),z8,z9] [some acc] = some ((cs.map encC,[]),[some acc]) := by
    rw [Jcd,Jd8 (ds := [.lst false (bs.map encB),encN true there,.int ((w : Int) + 1),.int n]) (S' := [some acc]) (by simp [Jaf,Jbj,Jap,Jai,Jad,oAdd,VS.listOf,-List.map_map,-Option.map_bind]) (by simp [Jax,Ja4,Jf2]) (by simp [ageL,age,Jqm]) hrec]
    simp [Jav,VS.listOf,VS.idOf]
  unfold Jgk
  rw [Jep,e]
  obtain ⟨env',S',e2,z8',z9',he,hS⟩ := Jej (w := []) (g := Pat.sem (.tp [(.nm 8),(.nm 9)])) (b := Je3 rec) (ds := cs.map encC) (env := [some (.lst false (bs.map encB)),some NS,some (.int w),some (.int n),some (.ref 0),some (.int p.1),some (.int p.2),some (encN true there),z8,z9]) (S := [some acc])
    (fun i env S => ∃ z8 z9,env = [some (.lst false (bs.map encB)),some NS,some (.int w),some (.int n),some (.ref 0),some (.int p.1),some (.int p.2),some (encN true there),z8,z9] ∧ S = [some (acc ++ ((cs.take i).map fun c => (p :: c.1,c.2)).map encC)])
    ⟨z8,z9,rfl,by simp⟩ (fun i env S _ => by simp) (fun i d env S hd q => by
      obtain ⟨z8,z9,he,hS⟩ := q
      subst he hS
      rw [List.getElem?_map] at hd
      obtain ⟨c,hc,rfl⟩ := Option.map_eq_some_iff.mp hd
      have hi := (List.getElem?_eq_some_iff.mp hc).1
      refine ⟨_,by simp [Jcp,Jes,Jct,Jcb,-List.map_map,-Option.map_bind,encC],_,_,Jzg rec _ _ _ _ _ p c _ (by simp; omega) (hcs c (List.mem_of_getElem? hc)),_,_,rfl,?_⟩
      rw [List.take_succ,hc]
      simp)
  subst he hS
  refine ⟨z8',z9',e2.trans ?_⟩
  have : (cs.map encC).length = cs.length := by simp
  rw [this,List.take_length]
theorem Joa {bs : List (List St2)} : ∀ (k w : Nat) (ns : List Nat) (c : List St2 × List Nat),c ∈ Jbd bs k w ns → c.1.length = k
  | 0,w,ns,c,h => by
    rw [Jbd] at h
    split at h
    · simp at h
    · have : c = ([],ns) := by simpa using h
      rw [this]; rfl
  | k + 1,w,ns,c,h => by
    rw [Jbd] at h
    split at h
    · simp at h
    · obtain ⟨p,_,h2⟩ := List.mem_flatMap.mp h
      obtain ⟨d,h3,rfl⟩ := List.mem_map.mp h2
      rw [List.length_cons,Joa k (w + 1) _ d h3]
theorem Jp4 (bs : List (List St2)) (w : Nat) (ns : List Nat) : Jea (Jdz (ns.map fun i => bs.getD i []) w ++ Jcq (ns.map fun i => bs.getD i []) w) = Jbx bs w ns := by
  unfold Jdz Jcq Jbx at1
  rw [List.map_map,List.map_map]; rfl
theorem Jzc (rec : PSem) {n w k : Nat} {bs : List (List St2)} {ns : List Nat} (hb : ∀ b ∈ bs,b.length = n) (hi : ∀ i ∈ ns,i < bs.length) (hl : ns.length ≤ 20) (hne : ns ≠ []) (hw : w < n) (hk : k ≤ 2)
    (ih : ∀ ms : List Nat,(∀ i ∈ ms,i < bs.length) → ms.length ≤ 20 → rec [.lst false (bs.map encB),encN false ms,.int ((w : Int) + 1),.int n] = some (.lst true ((Jbd bs k (w + 1) ms).map encC))) :
    ∃ z5 z6 z7 z8 z9,Jgj rec [some (.lst false (bs.map encB)),some (encN false ns),some (.int w),some (.int n),some (.ref 0),none,none,none,none,none] [some []] =
      some (.nx,[some (.lst false (bs.map encB)),some (encN false ns),some (.int w),some (.int n),some (.ref 0),z5,z6,z7,z8,z9],[some ((Jbd bs (k + 1) w ns).map encC)]) := by
  have c1 := Jzf rec (m := false) (m' := false) hb (by omega) hi hl [some (.int w),some (.int n),some (.ref 0),none,none,none,none,none] [some []]
  have h1 := Jug (m := false) (cs := ns.map fun i => bs.getD i []) (w := w) (fun b hb' => by
    obtain ⟨i,hi',rfl⟩ := List.mem_map.mp hb'
    have h := hi i hi'
    rw [List.getD_eq_getElem?_getD,List.getElem?_eq_getElem h]
    show w < bs[i].length
    rw [hb _ (List.getElem_mem h)]; exact hw) (by rw [List.length_map]; exact hl) (by simpa using hne)
  rw [Jp4] at h1
  have e : iSeq (Jbc Jch (Jac (eFrz (Je1 rec)) (Jac (eVar 2) aNil))) [some (.lst false (bs.map encB)),some (encN false ns),some (.int w),some (.int n),some (.ref 0),none,none,none,none,none] [some []] = some (((steps (Jbx bs w ns)).map encS,[]),[some []]) := by
    rw [Jcd,Jd8 (ds := [.lst true ((ns.map fun i => bs.getD i []).map encB),.int w]) (S' := [some []]) (by simp only [Jad,Jai,Jat,Jaf,c1,Option.bind_some]; rfl) (by rw [Jax,Ja4,Jj1]; rfl) (by rw [ageL,age,Jra,ageL,ageL]; rfl) h1]
    simp [Jav,VS.listOf,VS.idOf]
  have hst : (steps (Jbx bs w ns)).length ≤ 40 := by
    have := Jgq (Jbx bs w ns)
    have h2 := Jgs (ns.map (fun i => (at1 bs i w).1) ++ ns.map (fun i => (at1 bs i w).2))
    rw [List.length_append,List.length_map,List.length_map] at h2
    unfold Jbx at this ⊢
    omega
  have hcl : ∀ x,(Jbd bs k (w + 1) (filt bs w x ns)).length ≤ 1600 := fun x => by
    have := Jlx (bs := bs) k (w + 1) (filt bs w x ns) (Nat.le_trans (List.length_filter_le _ _) hl)
    have h2 : 40 ^ k ≤ 40 ^ 2 := Nat.pow_le_pow_right (by decide) hk
    omega
  let f : St2 → List (List St2 × List Nat) := fun p => (Jbd bs k (w + 1) (filt bs w p.1 ns)).map fun c => (p :: c.1,c.2)
  have hf : ∀ l : List St2,(l.flatMap f).length ≤ l.length * 1600 := fun l => by
    induction l with
    | nil => simp
    | cons p l ih =>
      rw [List.flatMap_cons,List.length_append,List.length_cons,Nat.add_mul,Nat.one_mul]
      have : (f p).length ≤ 1600 := by rw [List.length_map]; exact hcl p.1
      omega
  unfold Jgj
  rw [Jep,e]
  obtain ⟨env',S',e2,z5,z6,z7,z8,z9,he,hS⟩ := Jej (w := []) (g := Pat.sem (.tp [(.nm 5),(.nm 6)])) (b := Je2 rec) (ds := (steps (Jbx bs w ns)).map encS) (env := [some (.lst false (bs.map encB)),some (encN false ns),some (.int w),some (.int n),some (.ref 0),none,none,none,none,none]) (S := [some []])
    (fun i env S => ∃ z5 z6 z7 z8 z9,env = [some (.lst false (bs.map encB)),some (encN false ns),some (.int w),some (.int n),some (.ref 0),z5,z6,z7,z8,z9] ∧ S = [some ((((steps (Jbx bs w ns)).take i).flatMap f).map encC)])
    ⟨none,none,none,none,none,rfl,by simp⟩ (fun i env S _ => by simp) (fun i d env S hd q => by
      obtain ⟨z5,z6,z7,z8,z9,he,hS⟩ := q
      subst he hS
      rw [List.getElem?_map] at hd
      obtain ⟨p,hp,rfl⟩ := Option.map_eq_some_iff.mp hd
      have hi' := (List.getElem?_eq_some_iff.mp hp).1
      have h2 := hf ((steps (Jbx bs w ns)).take i)
      rw [List.length_take] at h2
      obtain ⟨z8',z9',l1⟩ := Jzd rec (n := n) (w := w) (bs := bs) (there := filt bs w p.1 ns) (cs := Jbd bs k (w + 1) (filt bs w p.1 ns)) (ih _ (fun i hi' => hi i (List.mem_filter.mp hi').1) (Nat.le_trans (List.length_filter_le _ _) hl)) (fun c hc => by rw [Joa _ _ _ _ hc]; omega) (encN false ns) p z8 z9 ((((steps (Jbx bs w ns)).take i).flatMap f).map encC) (by
        have h3 := hcl p.1
        rw [List.length_map]
        have h4 : min i (steps (Jbx bs w ns)).length ≤ 40 := by omega
        have h5 := Nat.mul_le_mul_right 1600 h4
        omega)
      have c2 := Jze rec (m := false) (m' := false) hb hi hl hw p.1 (some (.int n)) (some (.ref 0)) [some (.int p.2),z7,z8,z9] [some ((((steps (Jbx bs w ns)).take i).flatMap f).map encC)]
      have s1 : (sSet 7 (eFrz (Je0 rec))) [some (.lst false (bs.map encB)),some (encN false ns),some (.int w),some (.int n),some (.ref 0),some (.int p.1),some (.int p.2),z7,z8,z9] [some ((((steps (Jbx bs w ns)).take i).flatMap f).map encC)] = some (.nx,[some (.lst false (bs.map encB)),some (encN false ns),some (.int w),some (.int n),some (.ref 0),some (.int p.1),some (.int p.2),some (encN true (filt bs w p.1 ns)),z8,z9],[some ((((steps (Jbx bs w ns)).take i).flatMap f).map encC)]) := by
        rw [Jaz,Jat,c2]; rfl
      refine ⟨_,by simp [Jcp,Jes,Jct,Jcb,-List.map_map,-Option.map_bind,encS]; rfl,_,_,(show Je2 rec _ _ = _ by unfold Je2; rw [Jbq s1]; exact l1),_,_,_,_,_,rfl,?_⟩
      rw [List.take_succ,hp]
      simp [f])
  subst he hS
  refine ⟨z5,z6,z7,z8,z9,e2.trans ?_⟩
  have : ((steps (Jbx bs w ns)).map encS).length = (steps (Jbx bs w ns)).length := by simp
  rw [this,List.take_length,Jbd,if_neg hne]
theorem Jzb {n : Nat} {bs : List (List St2)} (hb : ∀ b ∈ bs,b.length = n) (hn : n ≤ 3) : ∀ (k d w : Nat) (ns : List Nat),w + k = n → (∀ i ∈ ns,i < bs.length) → ns.length ≤ 20 → Jau (d + k + 1) [.lst false (bs.map encB),encN false ns,.int w,.int n] = some (.lst true ((Jbd bs k w ns).map encC)) := by
  have hlen : ∀ (ns : List Nat) (r : VS.Env) (S : Store),eCB bLen (Jac (eVar 1) aNil) (some (.lst false (bs.map encB)) :: some (encN false ns) :: r) S = some (.int ns.length,S) := fun ns r S => by simp [Jaf,Jai,Jad,Jb5,bLen,VS.listOf,Jav,-List.map_map,-Option.map_bind,encN]
  have first : ∀ (ns : List Nat) (r : VS.Env),ns ≠ [] → (sIf (tVal (eOp (oEq false) (eCB bLen (Jac (eVar 1) aNil)) (eC (.int 0)))) (sRet (eFrz aNil)) sNil) (some (.lst false (bs.map encB)) :: some (encN false ns) :: r) [] = some (.nx,some (.lst false (bs.map encB)) :: some (encN false ns) :: r,[]) := fun ns r h => by
    have h0 : ¬ ((ns.length : Int) = 0) := by have := List.length_pos_iff.mpr h; omega
    simp only [Jb7,Jas,Jap,hlen,Option.bind_some,Jbj]
    simp [Ja2,Jbi,Jai,Jat,oEq,-List.map_map,-Option.map_bind,h0]
    exact h
  have nil : ∀ (k w : Nat),Jau (k + 1) [.lst false (bs.map encB),encN false [],.int w,.int n] = some (.lst true []) := fun k w => by
    simp [Jau,Jfz,Jbu,Jaz,Ja2,Jb7,Jbi,Jaf,Jbj,Jap,Jai,Jad,Jb5,Jas,Jat,Ji3,Jb1,oEq,bLen,VS.listOf,Jav,Jcr,den,denL,List.replicate_succ,-List.map_map,-Option.map_bind,encN]
  intro k
  induction k with
  | zero =>
    intro d w ns hw hi hl
    by_cases h : ns = []
    · subst h
      rw [nil,Jbd,if_pos rfl]; rfl
    · rw [Jbd,if_neg h]
      have hwn : w = n := by omega
      subst hwn
      have f1 := first ns [some (.int w),some (.int w),none,none,none,none,none,none] h
      unfold Jau
      rw [Jcr]
      simp only [List.length_cons,List.length_nil,List.map_cons,List.map_nil,Nat.reduceAdd,Nat.reduceSub,List.replicate_succ,List.replicate_zero,List.cons_append,List.nil_append,if_true]
      unfold Jfz
      rw [Jbq f1]
      have hd := Jet 0 [] (Jf2 false ns)
      simp [Jbu,Jaz,Ja2,Jb7,Jbi,Jaf,Jap,Jai,Jad,Jas,Jat,Ji3,Jb1,oEq,den,denL,-List.map_map,-Option.map_bind,hd,encC,encB]
  | succ k ih =>
    intro d w ns hw hi hl
    by_cases h : ns = []
    · subst h
      rw [nil,Jbd,if_pos rfl]; rfl
    · have hwn : ¬ ((w : Int) = (n : Int)) := by omega
      have f1 := first ns [some (.int w),some (.int n),none,none,none,none,none,none] h
      have f2 : (sIf (tVal (eOp (oEq false) (eVar 2) (eVar 3))) (sRet (eFrz (Jac (eTup (Jac (eTup aNil) (Jac (eVar 1) aNil))) aNil))) sNil) [some (.lst false (bs.map encB)),some (encN false ns),some (.int w),some (.int n),none,none,none,none,none,none] [] = some (.nx,[some (.lst false (bs.map encB)),some (encN false ns),some (.int w),some (.int n),none,none,none,none,none,none],[]) := by
        simp [Ja2,Jb7,Jbi,Jaf,Jap,Jai,Jad,Jas,Jat,Jb1,oEq,-List.map_map,-Option.map_bind,hwn]
      have f3 : (sSet 4 (eSto aNil)) [some (.lst false (bs.map encB)),some (encN false ns),some (.int w),some (.int n),none,none,none,none,none,none] [] = some (.nx,[some (.lst false (bs.map encB)),some (encN false ns),some (.int w),some (.int n),some (.ref 0),none,none,none,none,none],[some []]) := by
        simp [Jaz,Jai,Ji3,-List.map_map,-Option.map_bind]
      obtain ⟨z5,z6,z7,z8,z9,f4⟩ := Jzc (Jau (d + (k + 1))) (w := w) (k := k) hb hi hl h (by omega) (by omega) fun ms h1 h2 => by
        have := ih d (w + 1) ms (by omega) h1 h2
        rw [show ((w + 1 : Nat) : Int) = (w : Int) + 1 by omega] at this
        exact this
      rw [Jau,Jcr]
      simp only [List.length_cons,List.length_nil,List.map_cons,List.map_nil,Nat.reduceAdd,Nat.reduceSub,List.replicate_succ,List.replicate_zero,List.cons_append,List.nil_append,if_true]
      unfold Jfz
      rw [Jbq f1,Jbq f2,Jbq f3,Jbq f4]
      have hd : ∀ (j : Nat) (S : Store),denL j S ((Jbd bs (k + 1) w ns).map encC) = some ((Jbd bs (k + 1) w ns).map encC) := fun j S => Jbb j S (Jhc (Jbd bs (k + 1) w ns))
      simp [Ja2,Jaf,den,-List.map_map,-Option.map_bind,hd,Jhc]
theorem list_range {a : ASem} {env : VS.Env} {S S' : Store} {n : Nat} (h : a env S = some ([.int n],S')) (hn : n ≤ 1000) : Jdx a env S = some (encN true (List.range n),S') := by
  have hr : r62 (n : Int) := by unfold r62; omega
  have up : upD 0 n = (List.range n).map fun (i : Nat) => D.int i := by unfold upD; simp
  rw [Jdm,h,Option.bind_some]
  show (if r62 (n : Int) ∧ (n : Int).toNat ≤ 1000 then _ else _) = _
  rw [if_pos ⟨hr,by omega⟩,Int.toNat_natCast,up,encN]
theorem Jv5 {n : Nat} {bs : List (List St2)} (g : Good n bs) : Jdd [encH false n bs] = some (.lst true ((Jbd bs n 0 (List.range bs.length)).map encC)) := by
  have n3 := g.n3
  have few := g.few
  have h := Jzb (bs := bs) (fun b hb => (g.box b hb).1) n3.2 n (3 - n) 0 (List.range bs.length) (by omega) (fun i hi => List.mem_range.mp hi) (by simpa using few)
  rw [show 3 - n + n + 1 = 4 by omega] at h
  have hd := fun (j : Nat) (S : Store) => Jbb j S (Jhc (Jbd bs n 0 (List.range bs.length)))
  have t1 : (eOp oIx (eVar 0) (eC (.int 1))) [some (encH false n bs)] [] = some (.lst false (bs.map encB),[]) := by simp [Jaf,Jbj,Jap,oIx,VS.listOf,Jav,-List.map_map,-Option.map_bind,encH]
  have t0 : (eOp oIx (eVar 0) (eC (.int 0))) [some (encH false n bs)] [] = some (.int n,[]) := by simp [Jaf,Jbj,Jap,oIx,VS.listOf,Jav,-List.map_map,-Option.map_bind,encH]
  have t2 : (Jac (eCB bLen (Jac (eOp oIx (eVar 0) (eC (.int 1))) aNil)) aNil) [some (encH false n bs)] [] = some ([.int bs.length],[]) := by
    simp only [Jad,Jai,Jb5,t1,Option.bind_some]
    simp [bLen,Jav,VS.listOf]
  have t3 := list_range t2 (by omega)
  have a1 : (Jac (eOp oIx (eVar 0) (eC (.int 1))) (Jac (Jdx (Jac (eCB bLen (Jac (eOp oIx (eVar 0) (eC (.int 1))) aNil)) aNil)) (Jac (eC (.int 0)) (Jac (eOp oIx (eVar 0) (eC (.int 0))) aNil)))) [some (encH false n bs)] [] = some ([.lst false (bs.map encB),encN true (List.range bs.length),.int 0,.int n],[]) := by
    rw [Jad,t1,Option.bind_some,Jad,t3,Option.bind_some,Jad,Jbj,Option.bind_some,Jad,t0]
    rfl
  have c := Jd8 (sem := Jau 4) a1 (by simp [Jax,Ja4,Jf2]) (es := [.lst false (bs.map encB),encN false (List.range bs.length),.int 0,.int n]) (by simp [ageL,age,Jqm]) h
  unfold Jdd
  rw [Jcr]
  simp only [List.length_cons,List.length_nil,List.map_cons,List.map_nil,Nat.reduceAdd,Nat.reduceSub,List.replicate_zero,List.cons_append,List.nil_append,if_true]
  unfold Jlo
  rw [Ja2,c]
  show den 0 [] (.lst true _) = _
  rw [den,hd]; rfl
end W23
end
section
set_option Elab.async false
set_option maxRecDepth 10000
set_option linter.all false
set_option maxHeartbeats 4000000
namespace W23
open PySem L2 VS
def encL (s : List Int) : D := .lst false (s.map D.int)
def in1 (p : St2) (i : Int) : Bool := decide (p.1 ≤ i) && decide (i < p.2)
def Jf3 (b : List St2) (s : List Int) : Bool := (b.zip s).all fun q => in1 q.1 q.2
theorem Jqg : ∀ (bs : List (List St2)) (k : Nat),Jjp k (bs.map encB) = (bs.zipIdx k).map fun q => .tup [.int q.2,encB q.1]
  | [],k => by simp [Jjp]
  | b :: r,k => by simp [Jjp,Jqg r (k + 1)]
def atN (bs : List (List St2)) (s : List Int) : List Nat := ((bs.zipIdx).filter fun q => Jf3 q.1 s).map fun q => q.2
theorem Jiw : ∀ (b : List St2) (s : List Int),Jf3 b s = true ↔ ∀ (j : Nat) (p : St2) (x : Int),b[j]? = some p → s[j]? = some x → in1 p x = true
  | [],_ => by simp [Jf3]
  | _ :: _,[] => by simp [Jf3]
  | p :: b,i :: s => by
    have ih := Jiw b s
    unfold Jf3 at ih ⊢
    rw [List.zip_cons_cons,List.all_cons,Bool.and_eq_true,ih]
    constructor
    · rintro ⟨h0,h1⟩ j q x hq hx
      cases j with
      | zero => simp at hq hx; subst hq hx; exact h0
      | succ j => exact h1 j q x (by simpa using hq) (by simpa using hx)
    · intro h
      exact ⟨h 0 p i rfl rfl,fun j q x hq hx => h (j + 1) q x (by simpa using hq) (by simpa using hx)⟩
theorem Ju8 (b : List St2) (s : List Int) (i : Nat) (p : St2) (x : Int) (hp : b[i]? = some p) (hx : s[i]? = some x) :
    Jdw [some (encB b),some (encL s),some (.int i)] [] = if in1 p x = true then some (.nx,[some (encB b),some (encL s),some (.int i)],[]) else some (.ret (.bl false),[some (encB b),some (encL s),some (.int i)],[]) := by
  have h1 : atI (b.map encS) (i : Int) = some (.tup [.int p.1,.int p.2]) := Jh3 (by rw [List.getElem?_map,hp]; rfl)
  have h2 : atI (s.map D.int) (i : Int) = some (.int x) := Jh3 (by rw [List.getElem?_map,hx]; rfl)
  generalize (i : Int) = k at *
  by_cases g1 : x < p.1
  · have : in1 p x = false := by unfold in1; simp; omega
    rw [this]
    simp [Jdw,Ja2,Jb7,Jbi,Jaf,Jbj,Jap,Jas,Jer,oI,yes2,oLt,oGe,oIx,VS.listOf,Jav,-List.map_map,-Option.map_bind,encB,encL,h1,h2,g1]
  · by_cases g2 : p.2 ≤ x
    · have : in1 p x = false := by unfold in1; simp; omega
      rw [this]
      simp [Jdw,Ja2,Jb7,Jbi,Jaf,Jbj,Jap,Jas,Jer,oI,yes2,oLt,oGe,oIx,VS.listOf,Jav,-List.map_map,-Option.map_bind,encB,encL,h1,h2,g1,g2]
    · have : in1 p x = true := by unfold in1; simp; omega
      rw [this]
      simp [Jdw,Ja2,Jb7,Jbi,Jaf,Jbj,Jap,Jas,Jer,oI,yes2,oLt,oGe,oIx,VS.listOf,Jav,-List.map_map,-Option.map_bind,encB,encL,h1,h2,g1,g2]
theorem Jsr (b : List St2) (s : List Int) (hl : b.length ≤ 3) (hs : s.length = b.length) : Jcm [encB b,encL s] = some (.bl (Jf3 b s)) := by
  have e : Jc5 (Jac (eCB bLen (Jac (eVar 0) aNil)) aNil) [some (encB b),some (encL s),none] [] = some ((upD 0 b.length,[]),[]) := Jjb _ (by simp [Jaf,Jai,Jad,Jb5,bLen,VS.listOf,Jav,-List.map_map,-Option.map_bind,encB]; rfl) (by simp) (by omega) (by omega)
  have lp := Jsp (w := []) (g := Pat.sem (.nm 2)) (b := Jdw) (ds := upD 0 b.length) (env := [some (encB b),some (encL s),none]) (S := [])
    (fun i env S => S = [] ∧ (∃ z2,env = [some (encB b),some (encL s),z2]) ∧ ∀ (j : Nat) (p : St2) (x : Int),j < i → b[j]? = some p → s[j]? = some x → in1 p x = true) (fun r S => S = [] ∧ r = .bl false ∧ Jf3 b s = false)
    ⟨rfl,⟨none,rfl⟩,fun j p x h => by omega⟩ (fun i env S _ => by simp) (fun i d env S hd ⟨hS,⟨z2,he⟩,hk⟩ => by
      obtain ⟨hi,rfl⟩ := Jil hd
      subst hS he
      rw [Int.zero_add]
      obtain ⟨p,hp⟩ : ∃ p,b[i]? = some p := ⟨_,List.getElem?_eq_getElem hi⟩
      obtain ⟨x,hx⟩ : ∃ x,s[i]? = some x := ⟨_,List.getElem?_eq_getElem (by omega)⟩
      have hb := Ju8 b s i p x hp hx
      refine ⟨[some (encB b),some (encL s),some (.int i)],Jcp _ _ _,?_⟩
      rw [hb]
      by_cases h : in1 p x = true
      · rw [if_pos h]
        refine .inl ⟨_,_,.inl rfl,rfl,⟨_,rfl⟩,fun j p' x' hj h1 h2 => ?_⟩
        by_cases hji : j = i
        · subst hji
          rw [hp] at h1; rw [hx] at h2
          cases h1; cases h2
          exact h
        · exact hk j p' x' (by omega) h1 h2
      · rw [if_neg h]
        refine .inr ⟨_,_,_,rfl,rfl,rfl,?_⟩
        cases hc : Jf3 b s with
        | false => rfl
        | true => exact absurd ((Jiw b s).mp hc i p x hp hx) h)
  unfold Jcm
  rw [Jcr]
  simp only [List.length_cons,List.length_nil,List.map_cons,List.map_nil,Nat.reduceAdd,Nat.reduceSub,List.replicate_succ,List.replicate_zero,List.cons_append,List.nil_append,if_true]
  unfold Jko
  rcases lp with ⟨env',S',e2,hS,⟨z2,he⟩,hk⟩ | ⟨r,env',S',e2,hS,hr,hk⟩
  · subst hS he
    have l1 : Jem [some (encB b),some (encL s),none] [] = some (.nx,[some (encB b),some (encL s),z2],[]) := by
      unfold Jem
      rw [Jep,e]
      exact e2
    rw [Jbq l1,(Jiw b s).mpr fun j p x h1 h2 => hk j p x (by rw [Jik]; exact (List.getElem?_eq_some_iff.mp h1).1) h1 h2]
    simp [Ja2,Jbj,den,-List.map_map,-Option.map_bind]
  · subst hS hr
    have l1 : Jem [some (encB b),some (encL s),none] [] = some (.ret (.bl false),env',[]) := by
      unfold Jem
      rw [Jep,e]
      exact e2
    rw [Jxp l1,hk]
    simp [den,-List.map_map,-Option.map_bind]
theorem cut1 (xs : List D) : cut xs (some 1) none = xs.tail := by
  cases xs with
  | nil => rfl
  | cons x r =>
    rw [Jms (by decide) (by simp; omega)]
    rfl
theorem Jty (bs : List (List St2)) : (List.range bs.length).map (fun i => bs.getD i []) = bs := by
  refine List.ext_getElem (by simp) fun i h1 h2 => ?_
  rw [List.getElem_map,List.getElem_range,List.getD_eq_getElem?_getD,List.getElem?_eq_getElem h2]; rfl
theorem Jmw (bs : List (List St2)) (w : Nat) : Jea (Jdz bs w ++ Jcq bs w) = Jbx bs w (List.range bs.length) := by
  have := Jp4 bs w (List.range bs.length)
  rw [Jty] at this
  exact this
def AtF (S : Store) (F : D) (ds : List D) : Prop := F = .lst true ds ∨ ∃ j,F = .ref j ∧ S[j]? = some (some ds)
theorem AtF.seq {S : Store} {F : D} {ds : List D} (h : AtF S F ds) (k : Nat) (env : VS.Env) (he : env[k]? = some (some F)) : ∃ w,iSeq (eVar k) env S = some ((ds,w),S) ∧ (∀ T : Store,(∀ (j : Nat) (x : List D),S[j]? = some (some x) → T[j]? = some (some x)) → calm w T) := by
  rcases h with rfl | ⟨j,rfl,h⟩
  · exact ⟨[],by simp [Jaf,VS.listOf,Jav,VS.idOf,Jcd,-List.map_map,-Option.map_bind,he],fun T _ => by simp⟩
  · exact ⟨[(j,ds)],by simp [Jaf,VS.listOf,Jav,VS.idOf,Jcd,-List.map_map,-Option.map_bind,he,h],fun T hT => by simp; exact hT j ds h⟩
theorem AtF.more {S : Store} {F : D} {ds : List D} (h : AtF S F ds) (x : Option (List D)) : AtF (S ++ [x]) F ds := by
  rcases h with rfl | ⟨j,rfl,h⟩
  · exact .inl rfl
  · exact .inr ⟨j,rfl,by rw [List.getElem?_append_left (List.getElem?_eq_some_iff.mp h).1]; exact h⟩
theorem Jmh (S : Store) (x : Option (List D)) (j : Nat) (y : List D) (h : S[j]? = some (some y)) : (S ++ [x])[j]? = some (some y) := by
  rw [List.getElem?_append_left (List.getElem?_eq_some_iff.mp h).1]; exact h
theorem JDj (r : VS.Env) (S : Store) (s : List St2) (T : List St2) (h6 : r[6]? = some (some (.lst true (T.map encS)))) (h8 : r[8]? = some (some (encB s))) (hs : s.length ≤ 3) (hT : T.length ≤ 40) : Jfs r S = some ((T.map fun p => s ++ [p]).map encB,S) := by
  have e : iSeq (eVar 6) r S = some ((T.map encS,[]),S) := by simp [Jaf,VS.listOf,Jav,VS.idOf,Jcd,-List.map_map,-Option.map_bind,h6]
  unfold Jfs Jcs
  rw [e]
  simp only [Option.bind_some]
  rw [Jh1 (by simp) encS (fun p => encB (s ++ [p])) T (by omega)]
  · rw [List.map_map]; rfl
  · intro p hp
    have h1 : s.length ≤ 999999 := by omega
    refine ⟨_,Jcp _ _ _,?_⟩
    simp [Jaf,Jap,Jai,Jad,Jb1,capE,oAdd,VS.listOf,List.replicate_succ,-List.map_map,-Option.map_bind,h8,encB,h1]
def Jez (T : List St2) (G : List (List St2)) : List (List St2) := G.flatMap fun s => T.map fun p => s ++ [p]
theorem Jki (T : List St2) : ∀ G : List (List St2),(Jez T G).length = G.length * T.length
  | [] => by simp [Jez]
  | s :: G => by
    have := Jki T G
    unfold Jez at this ⊢
    rw [List.flatMap_cons,List.length_append,this,List.length_map,List.length_cons,Nat.add_mul]; omega
theorem JDf {e0 e1 e2 e4 e5 : Option D} (S : Store) (F : D) (G : List (List St2)) (T : List St2) (hF : AtF S F (G.map encB)) (hG : ∀ s ∈ G,s.length ≤ 3) (hT : T.length ≤ 40) (hl : G.length ≤ 1600) (z8 z9 z10 z11 : Option D) :
    ∃ z8',Jg2 [e0,e1,e2,some F,e4,e5,some (.lst true (T.map encS)),some (.ref S.length),z8,z9,z10,z11] (S ++ [some []]) =
      some (.nx,[e0,e1,e2,some F,e4,e5,some (.lst true (T.map encS)),some (.ref S.length),z8',z9,z10,z11],S ++ [some ((Jez T G).map encB)]) := by
  obtain ⟨w,e,hw⟩ := (hF.more (some [])).seq 3 [e0,e1,e2,some F,e4,e5,some (.lst true (T.map encS)),some (.ref S.length),z8,z9,z10,z11] rfl
  have hw' : ∀ x,calm w (S ++ [some x]) := fun x => by
    rcases hF with rfl | ⟨j,rfl,h⟩
    · have : w = [] := by
        simp [Jcd,Jaf,Jav,VS.listOf,VS.idOf] at e
        exact e
      rw [this]; simp
    · have : w = [(j,G.map encB)] := by
        simp [Jcd,Jaf,Jav,VS.listOf,VS.idOf,Jmh S (some []) j _ h] at e
        exact e.symm
      rw [this]; simp [Jmh S (some x) j _ h]
  unfold Jg2
  rw [Jep,e]
  obtain ⟨env',S',e2',z8',he,hS⟩ := Jej (w := w) (g := Pat.sem (.nm 8)) (b := Jg4) (ds := G.map encB) (env := [e0,e1,e2,some F,e4,e5,some (.lst true (T.map encS)),some (.ref S.length),z8,z9,z10,z11]) (S := S ++ [some []])
    (fun i env R => ∃ z8,env = [e0,e1,e2,some F,e4,e5,some (.lst true (T.map encS)),some (.ref S.length),z8,z9,z10,z11] ∧ R = S ++ [some ((Jez T (G.take i)).map encB)])
    ⟨z8,rfl,by simp [Jez]⟩ (fun i env R q => by obtain ⟨_,_,hR⟩ := q; rw [hR]; exact hw' _) (fun i d env R hd q => by
      obtain ⟨z8,he,hR⟩ := q
      subst he hR
      rw [List.getElem?_map] at hd
      obtain ⟨s,hs,rfl⟩ := Option.map_eq_some_iff.mp hd
      have hi := (List.getElem?_eq_some_iff.mp hs).1
      have c3 := JDj [e0,e1,e2,some F,e4,e5,some (.lst true (T.map encS)),some (.ref S.length),some (encB s),z9,z10,z11] (S ++ [some ((Jez T (G.take i)).map encB)]) s T rfl rfl (hG s (List.mem_of_getElem? hs)) hT
      have hlen : ((Jez T (G.take i)).map encB).length + ((T.map fun p => s ++ [p]).map encB).length ≤ 1000000 := by
        rw [List.length_map,Jki,List.length_take,List.length_map,List.length_map]
        have h1 : min i G.length ≤ 1600 := by omega
        have := Nat.mul_le_mul h1 hT
        omega
      refine ⟨[e0,e1,e2,some F,e4,e5,some (.lst true (T.map encS)),some (.ref S.length),some (encB s),z9,z10,z11],by rw [Jcp]; rfl,_,_,?_,some (encB s),rfl,rfl⟩
      unfold Jg4
      have hL : VS.listOf (S ++ [some ((Jez T (G.take i)).map encB)]) (.ref S.length) = some ((Jez T (G.take i)).map encB) := by simp [VS.listOf]
      have m1 : Jj8 (S ++ [some ((Jez T (G.take i)).map encB)]) (.ref S.length) [.lst true ((T.map fun p => s ++ [p]).map encB)] = some (.non,S ++ [some ((Jez T (G.take (i + 1))).map encB)]) := by
        have hg : Jez T (G.take (i + 1)) = Jez T (G.take i) ++ T.map fun p => s ++ [p] := by
          rw [List.take_succ,hs]; simp [Jez]
        simp only [Jj8,Jtv,VS.listOf]
        rw [if_pos hlen,Jrp,hg,List.map_append]
      rw [Jht,Jhj]
      have o1 : eVar 7 [e0,e1,e2,some F,e4,e5,some (.lst true (T.map encS)),some (.ref S.length),some (encB s),z9,z10,z11] (S ++ [some ((Jez T (G.take i)).map encB)]) = some (.ref S.length,S ++ [some ((Jez T (G.take i)).map encB)]) := rfl
      have o2 : Jac (eFrz Jfs) aNil [e0,e1,e2,some F,e4,e5,some (.lst true (T.map encS)),some (.ref S.length),some (encB s),z9,z10,z11] (S ++ [some ((Jez T (G.take i)).map encB)]) = some ([.lst true ((T.map fun p => s ++ [p]).map encB)],S ++ [some ((Jez T (G.take i)).map encB)]) := by
        rw [Jad,Jat,c3]; rfl
      show Option.bind (Option.bind (eVar 7 _ _) _) _ = _
      rw [o1,Option.bind_some]
      simp only [hL,Option.isSome_some,if_true]
      rw [o2,Option.bind_some,m1]
      rfl)
  subst he hS
  refine ⟨z8',e2'.trans ?_⟩
  have : (G.map encB).length = G.length := by simp
  rw [this,List.take_length]
end W23
end
section
set_option Elab.async false
set_option maxRecDepth 10000
set_option linter.all false
set_option maxHeartbeats 4000000
namespace W23
open PySem L2 VS
theorem JDl {n : Nat} {bs : List (List St2)} (g : Good n bs) {e0 e1 : Option D} (w : Nat) (hw : w < n) (S : Store) (F : D) (G : List (List St2)) (hF : AtF S F (G.map encB)) (hG : ∀ s ∈ G,s.length ≤ 3) (hl : G.length ≤ 1600) (z5 z6 z7 z8 z9 z10 z11 : Option D) :
    ∃ z5' z6' z8',Jfw [e0,e1,some (.lst false (bs.map encB)),some F,some (.int w),z5,z6,z7,z8,z9,z10,z11] S =
      some (.nx,[e0,e1,some (.lst false (bs.map encB)),some (.ref S.length),some (.int w),z5',z6',some (.ref S.length),z8',z9,z10,z11],S ++ [some ((Jez (steps (Jbx bs w (List.range bs.length))) G).map encB)]) := by
  have few := g.few
  have hb : ∀ b ∈ bs,w < b.length := fun b hb => by rw [(g.box b hb).1]; exact hw
  obtain ⟨c1,c2⟩ := col hb (by omega) S [none,some (.int w)] fun d => ⟨rfl,rfl⟩
  have e : iSeq (eVar 2) [e0,e1,some (.lst false (bs.map encB)),some F,some (.int w),z5,z6,z7,z8,z9,z10,z11] S = some ((bs.map encB,[]),S) := by simp [Jaf,VS.listOf,Jav,VS.idOf,Jcd,-List.map_map,-Option.map_bind]
  have k1 : Jfu [e0,e1,some (.lst false (bs.map encB)),some F,some (.int w),z5,z6,z7,z8,z9,z10,z11] S = some ((Jdz bs w).map .int,S) := by
    unfold Jfu Jcs
    rw [e]
    exact c1
  have k2 : Jft [e0,e1,some (.lst false (bs.map encB)),some F,some (.int w),z5,z6,z7,z8,z9,z10,z11] S = some ((Jcq bs w).map .int,S) := by
    unfold Jft Jcs
    rw [e]
    exact c2
  obtain ⟨h1,h2⟩ := Jmq (w := w) few
  have h3 : (Jdz bs w).length + (Jcq bs w).length ≤ 1000000 := by simp at h2; omega
  have h4 : (Jdz bs w).length + (Jcq bs w).length < 1000 := by simpa using h2
  have s1 : (sSet 5 (Jhi (eOp oAdd (eFrz Jfu) (eFrz Jft)))) [e0,e1,some (.lst false (bs.map encB)),some F,some (.int w),z5,z6,z7,z8,z9,z10,z11] S = some (.nx,[e0,e1,some (.lst false (bs.map encB)),some F,some (.int w),some (.lst true ((Jbx bs w (List.range bs.length)).map .int)),z6,z7,z8,z9,z10,z11],S) := by
    rw [← Jmw]
    simp [Jaz,Jap,Jat,Jdt,oAdd,VS.listOf,-List.map_map,-Option.map_bind,k1,k2,Jn7,h1,h3,h4]
  have hT : (steps (Jbx bs w (List.range bs.length))).length ≤ 40 := by
    have := Jgq (Jbx bs w (List.range bs.length))
    rw [← Jmw] at this ⊢
    have h5 := Jgs (Jdz bs w ++ Jcq bs w)
    rw [List.length_append] at h5
    have h6 : (Jdz bs w).length = bs.length := by simp [Jdz]
    have h7 : (Jcq bs w).length = bs.length := by simp [Jcq]
    omega
  generalize Jbx bs w (List.range bs.length) = E at *
  have z := Jm4 E
  have hz : (steps E).length ≤ 1000000 := by omega
  have c' := cut1 (E.map D.int)
  have s2 : (sSet 6 (Jih (Jac (eVar 5) (Jac (eSl oSl (eVar 5) (Jhv (eC (.int 1))) Jhw) aNil)))) [e0,e1,some (.lst false (bs.map encB)),some F,some (.int w),some (.lst true (E.map .int)),z6,z7,z8,z9,z10,z11] S = some (.nx,[e0,e1,some (.lst false (bs.map encB)),some F,some (.int w),some (.lst true (E.map .int)),some (.lst true ((steps E).map encS)),z7,z8,z9,z10,z11],S) := by
    simp [Jaz,Jaf,Jbj,Jai,Jad,Jew,Jev,Jig,Jkr,oSl,VS.listOf,Jav,-List.map_map,-Option.map_bind,c',z,hz]
  have s3 : (sSet 7 (eSto aNil)) [e0,e1,some (.lst false (bs.map encB)),some F,some (.int w),some (.lst true (E.map .int)),some (.lst true ((steps E).map encS)),z7,z8,z9,z10,z11] S = some (.nx,[e0,e1,some (.lst false (bs.map encB)),some F,some (.int w),some (.lst true (E.map .int)),some (.lst true ((steps E).map encS)),some (.ref S.length),z8,z9,z10,z11],S ++ [some []]) := by
    simp [Jaz,Jai,Ji3,-List.map_map,-Option.map_bind]
  obtain ⟨z8',l1⟩ := JDf (e0 := e0) (e1 := e1) (e2 := some (.lst false (bs.map encB))) (e4 := some (.int w)) (e5 := some (.lst true (E.map .int))) S F G (steps E) hF hG hT hl z8 z9 z10 z11
  refine ⟨some (.lst true (E.map .int)),some (.lst true ((steps E).map encS)),z8',?_⟩
  unfold Jfw
  rw [Jbq s1,Jbq s2,Jbq s3,Jbq l1]
  rfl
def Jkl (bs : List (List St2)) : Nat → List (List St2)
  | 0 => [[]]
  | k + 1 => Jez (steps (Jbx bs k (List.range bs.length))) (Jkl bs k)
theorem Jq5 {n : Nat} {bs : List (List St2)} (g : Good n bs) (w : Nat) : (steps (Jbx bs w (List.range bs.length))).length ≤ 40 := by
  have few := g.few
  have := Jgq (Jbx bs w (List.range bs.length))
  rw [← Jmw] at this ⊢
  have h5 := Jgs (Jdz bs w ++ Jcq bs w)
  rw [List.length_append] at h5
  have h6 : (Jdz bs w).length = bs.length := by simp [Jdz]
  have h7 : (Jcq bs w).length = bs.length := by simp [Jcq]
  omega
theorem Jkj {n : Nat} {bs : List (List St2)} (g : Good n bs) : ∀ k,(Jkl bs k).length ≤ 40 ^ k
  | 0 => by simp [Jkl]
  | k + 1 => by
    rw [Jkl,Jki,Nat.pow_succ]
    exact Nat.mul_le_mul (Jkj g k) (Jq5 g k)
theorem Jkk {bs : List (List St2)} : ∀ k,∀ c ∈ Jkl bs k,c.length = k
  | 0,c,h => by
    have : c = [] := by simpa [Jkl] using h
    rw [this]; rfl
  | k + 1,c,h => by
    obtain ⟨s,h1,h2⟩ := List.mem_flatMap.mp h
    obtain ⟨p,_,rfl⟩ := List.mem_map.mp h2
    rw [List.length_append,Jkk k s h1]; rfl
theorem Jqd {α β : Type} {f g : α → List β} {l : List α} (h : ∀ a ∈ l,f a = g a) : l.flatMap f = l.flatMap g := by
  rw [List.flatMap_def,List.flatMap_def,List.map_congr_left h]
theorem Js6 {bs : List (List St2)} : ∀ (k w : Nat) (G : List (List St2)),G.flatMap (fun s => (Jeo bs k w).map (s ++ ·)) = (List.range' w k).foldl (fun G v => Jez (steps (Jbx bs v (List.range bs.length))) G) G
  | 0,w,G => by simp [Jeo]
  | k + 1,w,G => by
    rw [List.range'_succ,List.foldl_cons,← Js6 k (w + 1) _,Jeo]
    unfold Jez
    rw [List.flatMap_assoc]
    refine Jqd fun s _ => ?_
    rw [List.map_flatMap,List.flatMap_map]
    refine Jqd fun p _ => ?_
    rw [List.map_map]
    refine List.map_congr_left fun c _ => ?_
    simp
theorem Jll {bs : List (List St2)} : ∀ k,Jkl bs k = (List.range' 0 k).foldl (fun G v => Jez (steps (Jbx bs v (List.range bs.length))) G) [[]]
  | 0 => rfl
  | k + 1 => by
    rw [Jkl,Jll k,List.range'_concat,List.foldl_append]
    simp
theorem Jmm {bs : List (List St2)} (k : Nat) : Jkl bs k = Jeo bs k 0 := by
  rw [Jll,← Js6 k 0 [[]]]
  simp
theorem JDe {n : Nat} {bs : List (List St2)} (g : Good n bs) (e0 : Option D) : ∃ F S z4 z5 z6 z7 z8,Jg1 [e0,some (.int n),some (.lst false (bs.map encB)),some (.lst true ([[]].map encB)),none,none,none,none,none,none,none,none] [] =
      some (.nx,[e0,some (.int n),some (.lst false (bs.map encB)),some F,z4,z5,z6,z7,z8,none,none,none],S) ∧ AtF S F ((Jeo bs n 0).map encB) := by
  have n3 := g.n3
  have e : Jc5 (Jac (eVar 1) aNil) [e0,some (.int n),some (.lst false (bs.map encB)),some (.lst true ([[]].map encB)),none,none,none,none,none,none,none,none] [] = some ((upD 0 n,[]),[]) := Jjb (j := (n : Int)) n (by simp [Jaf,Jai,Jad,-List.map_map,-Option.map_bind]) (by simp) (by omega) (by omega)
  unfold Jg1
  rw [Jep,e]
  obtain ⟨env',S',e2,F,z4,z5,z6,z7,z8,he,hF⟩ := Jej (w := []) (g := Pat.sem (.nm 4)) (b := Jfw) (ds := upD 0 n) (env := [e0,some (.int n),some (.lst false (bs.map encB)),some (.lst true ([[]].map encB)),none,none,none,none,none,none,none,none]) (S := [])
    (fun i env S => ∃ F z4 z5 z6 z7 z8,env = [e0,some (.int n),some (.lst false (bs.map encB)),some F,z4,z5,z6,z7,z8,none,none,none] ∧ AtF S F ((Jkl bs i).map encB))
    ⟨.lst true ([[]].map encB),none,none,none,none,none,rfl,.inl rfl⟩ (fun i env S _ => by simp) (fun i d env S hd q => by
      obtain ⟨hi,rfl⟩ := Jil hd
      obtain ⟨F,z4,z5,z6,z7,z8,he,hF⟩ := q
      subst he
      have hlen := Jkj g i
      have h2 : 40 ^ i ≤ 40 ^ 2 := Nat.pow_le_pow_right (by decide) (by omega)
      obtain ⟨z5',z6',z8',b2⟩ := JDl g (e0 := e0) (e1 := some (.int n)) i hi S F (Jkl bs i) hF (fun s hs => by rw [Jkk i s hs]; omega) (by omega) z5 z6 z7 z8 none none none
      refine ⟨[e0,some (.int n),some (.lst false (bs.map encB)),some F,some (.int i),z5,z6,z7,z8,none,none,none],by rw [Jcp,Int.zero_add]; rfl,_,_,b2,_,_,_,_,_,_,rfl,.inr ⟨_,rfl,?_⟩⟩
      rw [Jtv]
      rfl)
  subst he
  refine ⟨F,S',z4,z5,z6,z7,z8,e2,?_⟩
  rw [← Jmm]
  have : (upD 0 n).length = n := Jik _ _
  rw [this] at hF
  exact hF
end W23
end
section
set_option Elab.async false
set_option maxRecDepth 10000
set_option linter.all false
set_option maxHeartbeats 4000000
namespace W23
open PySem L2 VS
theorem Jqe {bs : List (List St2)} : ∀ (xs : List Int) (w : Nat) (ns : List Nat),Jiy bs w xs ns = ns.filter fun i => xs.zipIdx.all fun q => inS (at1 bs i (w + q.2)) q.1
  | [],w,ns => by
    rw [Jiy]
    exact (List.filter_eq_self.mpr fun _ _ => rfl).symm
  | x :: xs,w,ns => by
    rw [Jiy,Jqe xs (w + 1),filt,List.filter_filter]
    refine List.filter_congr fun i _ => ?_
    rw [List.zipIdx_cons,List.all_cons,Nat.add_zero,Bool.and_comm,Nat.zero_add]
    congr 1
    rw [show xs.zipIdx 1 = (xs.zipIdx 0).map fun q => (q.1,q.2 + 1) by rw [List.zipIdx_eq_map_add]; simp; intros; omega,List.all_map]
    refine congrArg (fun f => List.all (xs.zipIdx 0) f) (funext fun q => ?_)
    simp only [Function.comp]
    rw [show w + (q.2 + 1) = w + 1 + q.2 by omega]
theorem Jny (b : List St2) : ∀ (xs : List Int) (k : Nat),k + xs.length = b.length → Jf3 (b.drop k) xs = (xs.zipIdx k).all fun q => inS (b.getD q.2 (0,0)) q.1
  | [],k,_ => by simp [Jf3]
  | x :: xs,k,h => by
    have hk : k < b.length := by simp at h; omega
    rw [List.drop_eq_getElem_cons hk,List.zipIdx_cons,List.all_cons,← Jny b xs (k + 1) (by simp at h ⊢; omega)]
    unfold Jf3
    rw [List.zip_cons_cons,List.all_cons]
    congr 1
    rw [List.getD_eq_getElem?_getD,List.getElem?_eq_getElem hk]; rfl
theorem Jtw {n : Nat} {bs : List (List St2)} (hb : ∀ b ∈ bs,b.length = n) (s : List Int) (hs : s.length = n) : atN bs s = Jiy bs 0 s (List.range bs.length) := by
  rw [Jqe]
  unfold atN
  have e : bs.zipIdx = (List.range bs.length).map fun i => (bs.getD i [],i) := by
    refine List.ext_getElem (by simp) fun i h1 h2 => ?_
    have h3 : i < bs.length := by simpa using h1
    rw [List.getElem_zipIdx,List.getElem_map,List.getElem_range,List.getD_eq_getElem?_getD,List.getElem?_eq_getElem h3]
    simp
  rw [e,List.filter_map,List.map_map]
  have : (fun q : List St2 × Nat => q.2) ∘ (fun i => (bs.getD i [],i)) = id := rfl
  rw [this,List.map_id]
  refine List.filter_congr fun i hi => ?_
  have h := List.mem_range.mp hi
  have h2 : (bs.getD i []).length = n := by rw [List.getD_eq_getElem?_getD,List.getElem?_eq_getElem h]; exact hb _ (List.getElem_mem h)
  have := Jny (bs.getD i []) s 0 (by rw [h2]; omega)
  simp only [Function.comp]
  rw [List.drop_zero] at this
  rw [this]
  refine congrArg (fun f => List.all (s.zipIdx 0) f) (funext fun q => ?_)
  rw [Nat.zero_add]; rfl
end W23
end
section
set_option Elab.async false
set_option maxRecDepth 10000
set_option linter.all false
set_option maxHeartbeats 4000000
namespace W23
open PySem L2 VS
def encD (c : List St2 × List Nat) : D := .tup [encB c.1,encN true c.2]
theorem JDi (r : VS.Env) (S : Store) (c : List St2) (h : r[10]? = some (some (encB c))) (hc : c.length ≤ 3) : Jfr r S = some ((lows c).map .int,S) := by
  have e : iSeq (eVar 10) r S = some ((c.map encS,[]),S) := by simp [Jaf,VS.listOf,Jav,VS.idOf,Jcd,-List.map_map,-Option.map_bind,h,encB]
  unfold Jfr Jcs
  rw [e]
  simp only [Option.bind_some]
  rw [Jh1 (by simp) encS (fun p => .int p.1) c (by omega)]
  · unfold lows; rw [List.map_map]; rfl
  · intro p _
    exact ⟨_,by simp [capE,Jcp,Jes,Jct,Jcb,List.replicate_succ,-List.map_map,-Option.map_bind,encS]; rfl,by simp [Jaf,-List.map_map,-Option.map_bind]⟩
theorem JDh {n : Nat} {bs : List (List St2)} (g : Good n bs) (r : VS.Env) (S : Store) (s : List Int) (hs : s.length = n) (h2 : r[2]? = some (some (.lst false (bs.map encB)))) (h11 : r[11]? = some (some (.lst true (s.map .int)))) : Jfq r S = some ((atN bs s).map (fun (i : Nat) => D.int i),S) := by
  have few := g.few
  have n3 := g.n3
  have e : Jqb (Jac (eVar 2) aNil) r S = some (((bs.zipIdx).map fun q => .tup [.int q.2,encB q.1],[]),S) := by
    rw [← Jqg bs 0]; simp [Jaf,Jai,Jad,VS.listOf,VS.idOf,Js4,-List.map_map,-Option.map_bind,h2]
  unfold Jfq Jcs
  rw [e]
  simp only [Option.bind_some]
  rw [Jh2 (by simp) (fun (q : List St2 × Nat) => D.tup [.int q.2,encB q.1]) (fun q => Jf3 q.1 s) (fun q => .int q.2) _ _ (by simp; omega)]
  · simp [atN]
  · intro q hq
    have hb : q.1 ∈ bs := by
      obtain ⟨i,hi,e⟩ := List.mem_iff_getElem.mp hq
      rw [← e,List.getElem_zipIdx]
      exact List.getElem_mem _
    have hl := (g.box q.1 hb).1
    have h3 := Jsr q.1 s (by omega) (by omega)
    refine ⟨_,by simp [capE,Jcp,Jes,Jct,Jcb,List.replicate_succ,-List.map_map,-Option.map_bind]; rfl,?_,fun _ => by simp [Jaf,-List.map_map,-Option.map_bind]⟩
    have c := Jd8 (sem := Jcm) (a := Jac (eVar 1) (Jac (eVar 2) aNil)) (env := [some (.int q.2),some (encB q.1),some (.lst true (s.map .int))]) (S := S) (S' := S) (ds := [encB q.1,.lst true (s.map .int)]) (es := [encB q.1,encL s]) (by simp [Jaf,Jai,Jad,-List.map_map,-Option.map_bind]) (by simp [Jax,Ja4]) (by simp [ageL,age,encL]) h3
    have hcap : (r[11]?.join) = some (.lst true (s.map .int)) := by rw [h11]; rfl
    rw [hcap]
    show tVal (Jbc Jcm (Jac (eVar 1) (Jac (eVar 2) aNil))) [some (.int q.2),some (encB q.1),some (.lst true (s.map .int))] S = _
    rw [Jas,c]; rfl
theorem JDk {n : Nat} {bs : List (List St2)} (g : Good n bs) {e0 e1 e3 e4 e5 e6 e7 e8 z11 : Option D} (S : Store) (acc : List D) (c : List St2) (hc : c.length = n) (hl : acc.length < 1000000) :
    Jfv [e0,e1,some (.lst false (bs.map encB)),e3,e4,e5,e6,e7,e8,some (.ref S.length),some (encB c),z11] (S ++ [some acc]) =
      some (.nx,[e0,e1,some (.lst false (bs.map encB)),e3,e4,e5,e6,e7,e8,some (.ref S.length),some (encB c),some (.lst true ((lows c).map .int))],S ++ [some (acc ++ [encD (c,atN bs (lows c))])]) := by
  have n3 := g.n3
  have s1 : (sSet 11 (eFrz Jfr)) [e0,e1,some (.lst false (bs.map encB)),e3,e4,e5,e6,e7,e8,some (.ref S.length),some (encB c),z11] (S ++ [some acc]) = some (.nx,[e0,e1,some (.lst false (bs.map encB)),e3,e4,e5,e6,e7,e8,some (.ref S.length),some (encB c),some (.lst true ((lows c).map .int))],S ++ [some acc]) := by
    rw [Jaz,Jat,JDi _ _ c rfl (by omega)]; rfl
  have c5 := JDh g [e0,e1,some (.lst false (bs.map encB)),e3,e4,e5,e6,e7,e8,some (.ref S.length),some (encB c),some (.lst true ((lows c).map .int))] (S ++ [some acc]) (lows c) (by simpa [lows] using hc) rfl rfl
  unfold Jfv
  rw [Jbq s1,Jht,Jhj]
  have o1 : eVar 9 [e0,e1,some (.lst false (bs.map encB)),e3,e4,e5,e6,e7,e8,some (.ref S.length),some (encB c),some (.lst true ((lows c).map .int))] (S ++ [some acc]) = some (.ref S.length,S ++ [some acc]) := rfl
  have o2 : Jac (eTup (Jac (eVar 10) (Jac (eFrz Jfq) aNil))) aNil [e0,e1,some (.lst false (bs.map encB)),e3,e4,e5,e6,e7,e8,some (.ref S.length),some (encB c),some (.lst true ((lows c).map .int))] (S ++ [some acc]) = some ([encD (c,atN bs (lows c))],S ++ [some acc]) := by
    have o3 : eVar 10 [e0,e1,some (.lst false (bs.map encB)),e3,e4,e5,e6,e7,e8,some (.ref S.length),some (encB c),some (.lst true ((lows c).map .int))] (S ++ [some acc]) = some (encB c,S ++ [some acc]) := rfl
    rw [Jad,Jb1,Jad,o3,Option.bind_some,Jad,Jat,c5]; rfl
  have m1 : Jfe (S ++ [some acc]) (.ref S.length) [encD (c,atN bs (lows c))] = some (.non,S ++ [some (acc ++ [encD (c,atN bs (lows c))])]) := by
    simp only [Jfe,Jtv]
    rw [if_pos hl,Jrp]
  rw [o1,Option.bind_some]
  have hL : VS.listOf (S ++ [some acc]) (.ref S.length) = some acc := by simp [VS.listOf]
  simp only [hL,Option.isSome_some,if_true]
  rw [o2,Option.bind_some,m1]
  rfl
end W23
end
section
set_option Elab.async false
set_option maxRecDepth 10000
set_option linter.all false
set_option maxHeartbeats 4000000
namespace W23
open PySem L2 VS
theorem JDd {n : Nat} {bs : List (List St2)} (g : Good n bs) {e0 e1 e4 e5 e6 e7 e8 : Option D} (S : Store) (F : D) (G : List (List St2)) (hF : AtF S F (G.map encB)) (hG : ∀ c ∈ G,c.length = n) (hl : G.length ≤ 64000) :
    ∃ z10 z11,Jg0 [e0,e1,some (.lst false (bs.map encB)),some F,e4,e5,e6,e7,e8,some (.ref S.length),none,none] (S ++ [some []]) =
      some (.nx,[e0,e1,some (.lst false (bs.map encB)),some F,e4,e5,e6,e7,e8,some (.ref S.length),z10,z11],S ++ [some ((G.map fun c => (c,atN bs (lows c))).map encD)]) := by
  obtain ⟨w,e,hw⟩ := (hF.more (some [])).seq 3 [e0,e1,some (.lst false (bs.map encB)),some F,e4,e5,e6,e7,e8,some (.ref S.length),none,none] rfl
  have hw' : ∀ x,calm w (S ++ [some x]) := fun x => by
    rcases hF with rfl | ⟨j,rfl,h⟩
    · have : w = [] := by
        simp [Jcd,Jaf,Jav,VS.listOf,VS.idOf] at e
        exact e
      rw [this]; simp
    · have : w = [(j,G.map encB)] := by
        simp [Jcd,Jaf,Jav,VS.listOf,VS.idOf,Jmh S (some []) j _ h] at e
        exact e.symm
      rw [this]; simp [Jmh S (some x) j _ h]
  unfold Jg0
  rw [Jep,e]
  obtain ⟨env',S',e2',z10,z11,he,hS⟩ := Jej (w := w) (g := Pat.sem (.nm 10)) (b := Jfv) (ds := G.map encB) (env := [e0,e1,some (.lst false (bs.map encB)),some F,e4,e5,e6,e7,e8,some (.ref S.length),none,none]) (S := S ++ [some []])
    (fun i env R => ∃ z10 z11,env = [e0,e1,some (.lst false (bs.map encB)),some F,e4,e5,e6,e7,e8,some (.ref S.length),z10,z11] ∧ R = S ++ [some (((G.take i).map fun c => (c,atN bs (lows c))).map encD)])
    ⟨none,none,rfl,by simp⟩ (fun i env R q => by obtain ⟨_,_,_,hR⟩ := q; rw [hR]; exact hw' _) (fun i d env R hd q => by
      obtain ⟨z10,z11,he,hR⟩ := q
      subst he hR
      rw [List.getElem?_map] at hd
      obtain ⟨c,hc,rfl⟩ := Option.map_eq_some_iff.mp hd
      have hi := (List.getElem?_eq_some_iff.mp hc).1
      refine ⟨[e0,e1,some (.lst false (bs.map encB)),some F,e4,e5,e6,e7,e8,some (.ref S.length),some (encB c),z11],by rw [Jcp]; rfl,_,_,JDk g S _ c (hG c (List.mem_of_getElem? hc)) (by simp; omega),_,_,rfl,?_⟩
      rw [List.take_succ,hc]
      simp)
  subst he hS
  refine ⟨z10,z11,e2'.trans ?_⟩
  have : (G.map encB).length = G.length := by simp
  rw [this,List.take_length]
theorem JCr (S : Store) (m : Bool) (ns : List Nat) : seeP S (encN m ns) = some (.list (ns.map fun (i : Nat) => PyData.int i)) := by
  have h : ∀ l : List Nat,toPL (l.map fun (i : Nat) => D.int i) = some (l.map fun (i : Nat) => PyData.int i) := fun l => by
    induction l with
    | nil => rw [List.map_nil,toPL]; rfl
    | cons i r ih => rw [List.map_cons,toPL,toP,ih]; rfl
  rw [seeP,Jet 0 S (Jf2 m ns)]
  show toP (encN m ns) = _
  rw [encN,toP,h]; rfl
theorem ne_nil (S : Store) (m : Bool) (ns : List Nat) : oEq true S (encN m ns) (.lst true []) = some (.bl (decide (ns ≠ []))) := by
  have := Jmp (neg := true) (S := S) (x := encN m ns) (m := true) 1 (JCr S m ns) (by simp [lev]) (by decide)
  have e : (true ^^ (ns.map fun (i : Nat) => PyData.int i).isEmpty) = decide (ns ≠ []) := by cases ns <;> rfl
  rw [e] at this
  exact this
end W23
end
section
set_option Elab.async false
set_option maxRecDepth 10000
set_option linter.all false
set_option maxHeartbeats 4000000
namespace W23
open PySem L2 VS
theorem JDg (r : VS.Env) (S : Store) (cs : List (List St2 × List Nat)) (h9 : r[9]? = some (some (.ref S.length))) (hl : cs.length ≤ 64000) : Jg3 r (S ++ [some (cs.map encD)]) = some ((cs.filter fun c => decide (c.2 ≠ [])).map encD,S ++ [some (cs.map encD)]) := by
  have e : iSeq (eVar 9) r (S ++ [some (cs.map encD)]) = some ((cs.map encD,[(S.length,cs.map encD)]),S ++ [some (cs.map encD)]) := by simp [Jaf,VS.listOf,Jav,VS.idOf,Jcd,-List.map_map,-Option.map_bind,h9]
  unfold Jg3 Jcs
  rw [e]
  simp only [Option.bind_some]
  rw [Jh2 (by simp) encD (fun c => decide (c.2 ≠ [])) encD _ _ (by simp; omega)]
  · simp
  · intro c _
    have h := ne_nil (S ++ [some (cs.map encD)]) true c.2
    refine ⟨[some (encB c.1),some (encN true c.2)],by simp [capE,Jcp,Jes,Jct,Jcb,List.replicate_succ,-List.map_map,-Option.map_bind,encD],?_,fun _ => by simp [Jaf,Jai,Jad,Jb1,-List.map_map,-Option.map_bind,encD]⟩
    have v1 : eVar 1 [some (encB c.1),some (encN true c.2)] (S ++ [some (cs.map encD)]) = some (encN true c.2,S ++ [some (cs.map encD)]) := rfl
    rw [Jas,Jap,v1,Option.bind_some,Jat,Jai]
    simp only [Option.bind_some,h,Option.map_some]
theorem Jld : ∀ cs : List (List St2 × List Nat),Jax (cs.map encD) = true
  | [] => rfl
  | c :: r => by rw [List.map_cons,Jax,encD,Ja4,Jax,Jax,Jax,Jnf,Jf2,Jld r]; rfl
theorem Jsu {n : Nat} {bs : List (List St2)} (g : Good n bs) : Jc2 [encH false n bs] = some (.lst true ((((Jeo bs n 0).map fun c => (c,atN bs (lows c))).filter fun c => decide (c.2 ≠ [])).map encD)) := by
  have n3 := g.n3
  have s1 : (sAsg (eVar 0) (Pat.sem (.tp [(.nm 1),(.nm 2)]))) [some (encH false n bs),none,none,none,none,none,none,none,none,none,none,none] [] = some (.nx,[some (encH false n bs),some (.int n),some (.lst false (bs.map encB)),none,none,none,none,none,none,none,none,none],[]) := by simp [Jhu,Jaf,Jcp,Jes,Jct,Jcb,-List.map_map,-Option.map_bind,encH]
  have s2 : (sSet 3 (eFrz (Jac (eTup aNil) aNil))) [some (encH false n bs),some (.int n),some (.lst false (bs.map encB)),none,none,none,none,none,none,none,none,none] [] = some (.nx,[some (encH false n bs),some (.int n),some (.lst false (bs.map encB)),some (.lst true ([[]].map encB)),none,none,none,none,none,none,none,none],[]) := by simp [Jaz,Jai,Jad,Jat,Jb1,-List.map_map,-Option.map_bind,encB]
  obtain ⟨F,S,z4,z5,z6,z7,z8,s3,hF⟩ := JDe g (some (encH false n bs))
  have s4 : (sSet 9 (eSto aNil)) [some (encH false n bs),some (.int n),some (.lst false (bs.map encB)),some F,z4,z5,z6,z7,z8,none,none,none] S = some (.nx,[some (encH false n bs),some (.int n),some (.lst false (bs.map encB)),some F,z4,z5,z6,z7,z8,some (.ref S.length),none,none],S ++ [some []]) := by simp [Jaz,Jai,Ji3,-List.map_map,-Option.map_bind]
  have hk := Jkj g n
  rw [Jmm] at hk
  have hp : 40 ^ n ≤ 40 ^ 3 := Nat.pow_le_pow_right (by decide) n3.2
  have hd : ∀ c ∈ Jeo bs n 0,c.length = n := fun c hc => Jkk n c (by rw [Jmm]; exact hc)
  obtain ⟨z10,z11,s5⟩ := JDd g (e0 := some (encH false n bs)) (e1 := some (.int n)) (e4 := z4) (e5 := z5) (e6 := z6) (e7 := z7) (e8 := z8) S F (Jeo bs n 0) hF hd (by omega)
  have c6 := JDg [some (encH false n bs),some (.int n),some (.lst false (bs.map encB)),some F,z4,z5,z6,z7,z8,some (.ref S.length),z10,z11] S ((Jeo bs n 0).map fun c => (c,atN bs (lows c))) rfl (by rw [List.length_map]; omega)
  unfold Jc2
  rw [Jcr]
  simp only [List.length_cons,List.length_nil,List.map_cons,List.map_nil,Nat.reduceAdd,Nat.reduceSub,List.replicate_succ,List.replicate_zero,List.cons_append,List.nil_append,if_true]
  unfold Jkp
  rw [Jbq s1,Jbq s2]
  rw [show ([[]] : List (List St2)).map encB = [D.tup []] from rfl] at *
  rw [Jbq s3,Jbq s4,Jbq s5,Ja2,Jat,c6]
  show den 0 _ (.lst true _) = _
  rw [den,Jbb 0 _ (Jld _)]; rfl
end W23
end
section
set_option Elab.async false
set_option maxRecDepth 10000
set_option linter.all false
set_option maxHeartbeats 4000000
namespace W23
open PySem L2 VS
theorem Jud {sem : PSem} {a : ASem} {env : VS.Env} {S S' : Store} {d d' : D} {cs : List D} (h : Jbc sem a env S = some (d,S')) (ht : thaw S'.length d = some (d',cs)) : Jn8 sem a env S = some (d',S' ++ [some cs]) := by
  rw [Js9,h,Option.bind_some]
  show (thaw S'.length d).bind _ = _
  rw [ht]; rfl
theorem Jql {sem : MSem} {a : ASem} {env : VS.Env} {S S' : Store} {i : Nat} {rest es : List D} {ns ms : List Int} {r : D} (h : a env S = some (.ref i :: rest,S')) (hi : S'[i]? = some (some (ns.map D.int))) (hp : Jax rest = true) (ha : ageL rest = es) (hr : sem ns es = some (r,ms)) : Jby sem a env S = some (r,S'.set i (some (ms.map D.int))) := by
  rw [Ja7,h]
  simp only [Option.bind_some,hi,Jhf,Jbb 0 _ hp,ha,hr,hp,Bool.true_or,if_true]
theorem Jue {sem : MSem} {a : ASem} {env : VS.Env} {S S' : Store} {d d' : D} {cs : List D} (h : Jby sem a env S = some (d,S')) (ht : thaw S'.length d = some (d',cs)) : Jn9 sem a env S = some (d',S' ++ [some cs]) := by
  rw [Jta,h,Option.bind_some]
  show (thaw S'.length d).bind _ = _
  rw [ht]; rfl
theorem Jto {sem : PSem} {a : ASem} {env : VS.Env} {S S' : Store} {ds es fs : List D} {r : D} (h : a env S = some (ds,S')) (hd : denL 0 S' ds = some es) (ha : ageL es = fs) (hr : sem fs = some r) (hn : newD r = true) : Jbc sem a env S = some (r,S') := by
  rw [Jdq,h]
  simp only [Option.bind_some,hd,ha,hr,hn,Bool.or_true,if_true]
theorem Jym {g : Store → D → List D → Option (D × Store)} {o : ESem} {a : ASem} {env : VS.Env} {S S1 S2 S3 : Store} {d r : D} {cs ds : List D} (h : o env S = some (d,S1)) (hl : VS.listOf S1 d = some cs) (h2 : a env S1 = some (ds,S2)) (h3 : g S2 d ds = some (r,S3)) : Jjr g o a env S = some (r,S3) := by
  rw [Jhj,h,Option.bind_some]
  show (if (VS.listOf S1 d).isSome = true then _ else _) = _
  rw [hl]
  show (a env S1).bind _ = _
  rw [h2]
  exact h3
theorem end0 (S : Store) (a : Option (List D)) (l : List (Option (List D))) : (S ++ a :: l)[S.length]? = some a := by simp
theorem end1 (S : Store) (a b : Option (List D)) (l : List (Option (List D))) : (S ++ a :: b :: l)[S.length + 1]? = some b := by
  rw [List.getElem?_append_right (by omega)]
  simp
theorem set0 (S : Store) (a c : Option (List D)) (l : List (Option (List D))) : (S ++ a :: l).set S.length c = S ++ c :: l := by
  rw [List.set_append_right _ _ (by omega)]
  simp
theorem set1 (S : Store) (a b c : Option (List D)) (l : List (Option (List D))) : (S ++ a :: b :: l).set (S.length + 1) c = S ++ a :: c :: l := by
  rw [List.set_append_right _ _ (by omega)]
  simp
theorem Jjd {α β : Type} (f : α → β) : ∀ (l : List α) (k : Nat),(l.map f).eraseIdx k = (l.eraseIdx k).map f
  | [],k => by simp
  | a :: r,0 => by simp
  | a :: r,k + 1 => by simp [Jjd f r k]
end W23
end
section
set_option Elab.async false
set_option maxRecDepth 10000
set_option linter.all false
set_option maxHeartbeats 4000000
namespace W23
open PySem L2 VS
def pl : Nat → D → Bool
  | _,.int _ => true
  | _,.non => true
  | k + 1,.tup ds => decide (ds.length ≤ 1000) && ds.all (pl k)
  | k + 1,.lst false ds => decide (ds.length ≤ 1000) && ds.all (pl k)
  | _,_ => false
structure Pl (d : D) : Prop where
  pu : Ja4 d = true
  ag : age d = d
  see : ∃ p,toP d = some p ∧ noDict p = true
theorem Jnh {k : Nat} (ih : ∀ d,pl k d = true → Pl d) : ∀ ds : List D,ds.all (pl k) = true → Jax ds = true ∧ ageL ds = ds ∧ ∃ ps,toPL ds = some ps
  | [],_ => ⟨rfl,by rw [ageL],[],by rw [toPL]⟩
  | d :: r,h => by
    rw [List.all_cons,Bool.and_eq_true] at h
    obtain ⟨h1,h2,p,h3,_⟩ := ih d h.1
    obtain ⟨h4,h5,ps,h6⟩ := Jnh ih r h.2
    exact ⟨by rw [Jax,h1,h4]; rfl,by rw [ageL,h2,h5],p :: ps,by rw [toPL,h3,h6]; rfl⟩
theorem Jng : ∀ (k : Nat) (d : D),pl k d = true → Pl d
  | _,.int i,_ => ⟨rfl,by rw [age],.int i,by rw [toP],rfl⟩
  | _,.non,_ => ⟨rfl,by rw [age],.none,by rw [toP],rfl⟩
  | 0,.tup _,h => by simp [pl] at h
  | 0,.lst m _,h => by cases m <;> simp [pl] at h
  | k + 1,.tup ds,h => by
    rw [pl,Bool.and_eq_true] at h
    obtain ⟨h4,h5,ps,h6⟩ := Jnh (Jng k) ds h.2
    exact ⟨by rw [Ja4]; exact h4,by rw [age,h5],.tuple ps,by rw [toP,h6]; rfl,rfl⟩
  | k + 1,.lst false ds,h => by
    rw [pl,Bool.and_eq_true] at h
    obtain ⟨h4,h5,ps,h6⟩ := Jnh (Jng k) ds h.2
    exact ⟨by rw [Ja4]; exact h4,by rw [age,h5],.list ps,by rw [toP,h6]; rfl,rfl⟩
  | k + 1,.lst true _,h => by simp [pl] at h
  | k,.bl _,h => by cases k <;> simp [pl] at h
  | k,.str _,h => by cases k <;> simp [pl] at h
  | k,.ty _,h => by cases k <;> simp [pl] at h
  | k,.ref _,h => by cases k <;> simp [pl] at h
  | k,.scr _,h => by cases k <;> simp [pl] at h
  | k,.emp,h => by cases k <;> simp [pl] at h
theorem Pl.den {d : D} (h : Pl d) (k : Nat) (S : Store) : VS.den k S d = some d := Jet k S h.pu
theorem Jz1 {k : Nat} {d : D} {ds : List D} (hq : ∀ S,Jav S d = some ds) (hd : Pl d) (hl : ds.length ≤ 1000) (hp : ∀ e ∈ ds,Pl e ∧ Jar k [e,e] = some (.bl true)) : Jhx (Jar k) [some d,some d] [] = some ([],[]) := by
  have e : Jc5 (Jac (eCB bLen (Jac (eVar 1) aNil)) aNil) [some d,some d] [] = some ((upD 0 ds.length,[]),[]) := Jjb _ (by simp [Jb5,Jad,Jai,Jaf,bLen,hq]; rfl) (by simp) (by omega) (by omega)
  unfold Jhx Jcs
  rw [e]
  simp only [Option.bind_some]
  have e2 : upD 0 ds.length = (List.range ds.length).map fun (i : Nat) => D.int i := by unfold upD; simp
  rw [e2,Jh2 (by simp) (fun (i : Nat) => D.int i) (fun _ => false) (fun _ => .non) _ _ (by simp; omega)]
  · simp
  · intro i hi
    refine ⟨_,Jcp _ _ _,?_,fun z => by cases z⟩
    have hi' := List.mem_range.mp hi
    have ha : atI ds (i : Int) = some ds[i] := Jh3 (List.getElem?_eq_getElem hi')
    obtain ⟨h1,h2⟩ := hp ds[i] (List.getElem_mem hi')
    simp [Jim,Jas,Jdq,Jad,Jai,Jap,Jaf,capE,oIx,hq,ha,denL,h1.den,ageL,h1.ag,h2,newD]
theorem Jxt : ∀ (k : Nat) (d : D),pl k d = true → Jar (k + 1) [d,d] = some (.bl true) := by
  have seq : ∀ (k : Nat) (d : D) (ds : List D) (p : PyData),(∀ S,Jav S d = some ds) → Pl d → (∀ S,seeP S d = some p) → noDict p = true → isSeq p = true → ds.length ≤ 1000 → (∀ e ∈ ds,Pl e ∧ Jar k [e,e] = some (.bl true)) → Jar (k + 1) [d,d] = some (.bl true) := fun k d ds p hq hd hs hn hi hl hp => by
    have hc := Jz1 hq hd hl hp
    have e0 : ∀ S : Store,eqP false S (.lst true []) (.lst true []) = some (.bl true) := fun S => Jmp (l := []) 1 (by simp [seeP,VS.den,denL,toP,toPL]) rfl (by decide)
    have eb : ∀ (b : Bool) (S : Store),eqP true S (.bl b) (.bl b) = some (.bl false) := fun b S => Jif 0 (Jrx S b) (Jrx S b) rfl (by decide)
    simp [Jar,Jfc,Jcr,Jbu,Jb7,Ja2,Jbi,Jas,Jer,Jb5,Jad,Jai,Jaf,Jbj,Jb1,Jap,Jat,hs,hn,hi,oEq,eb,bLen,hq,hc,e0,VS.den]
  intro k
  induction k with
  | zero =>
    intro d h
    cases d with
    | int i => simp [Jar,Jfc,Jbu,Ja2,Jb7,Jbi,Jaf,Jbj,Jap,Jai,Jad,Jb5,Jg9,Jkq,Jas,Jer,Jat,Jb1,oEq,oIsN,bLen,VS.listOf,Jav,Jcr,den,-List.map_map,-Option.map_bind,noDict,isSeq]
    | non =>
      have : eqP false [] .non .non = some (.bl true) := Jif 0 (Jjt _) (Jjt _) rfl (by decide)
      simp [Jar,Jfc,Jbu,Ja2,Jb7,Jbi,Jaf,Jbj,Jap,Jai,Jad,Jb5,Jg9,Jkq,Jas,Jer,Jat,Jb1,oEq,oIsN,bLen,VS.listOf,Jav,Jcr,den,-List.map_map,-Option.map_bind,noDict,isSeq,this]
    | lst m ds => cases m <;> simp [pl] at h
    | _ => simp [pl] at h
  | succ k ih =>
    intro d h
    cases d with
    | int i => simp [Jar,Jfc,Jbu,Ja2,Jb7,Jbi,Jaf,Jbj,Jap,Jai,Jad,Jb5,Jg9,Jkq,Jas,Jer,Jat,Jb1,oEq,oIsN,bLen,VS.listOf,Jav,Jcr,den,-List.map_map,-Option.map_bind,noDict,isSeq]
    | non =>
      have : eqP false [] .non .non = some (.bl true) := Jif 0 (Jjt _) (Jjt _) rfl (by decide)
      simp [Jar,Jfc,Jbu,Ja2,Jb7,Jbi,Jaf,Jbj,Jap,Jai,Jad,Jb5,Jg9,Jkq,Jas,Jer,Jat,Jb1,oEq,oIsN,bLen,VS.listOf,Jav,Jcr,den,-List.map_map,-Option.map_bind,noDict,isSeq,this]
    | tup ds =>
      have hP := Jng _ _ h
      rw [pl,Bool.and_eq_true] at h
      obtain ⟨h4,h5,ps,h6⟩ := Jnh (Jng k) ds h.2
      exact seq (k + 1) _ ds (.tuple ps) (fun S => rfl) hP (fun S => by rw [seeP,hP.den]; show toP _ = _; rw [toP,h6]; rfl) rfl rfl (of_decide_eq_true h.1) fun e he => ⟨Jng k e (List.all_eq_true.mp h.2 e he),ih e (List.all_eq_true.mp h.2 e he)⟩
    | lst m ds =>
      cases m with
      | true => simp [pl] at h
      | false =>
        have hP := Jng _ _ h
        rw [pl,Bool.and_eq_true] at h
        obtain ⟨h4,h5,ps,h6⟩ := Jnh (Jng k) ds h.2
        exact seq (k + 1) _ ds (.list ps) (fun S => rfl) hP (fun S => by rw [seeP,hP.den]; show toP _ = _; rw [toP,h6]; rfl) rfl rfl (of_decide_eq_true h.1) fun e he => ⟨Jng k e (List.all_eq_true.mp h.2 e he),ih e (List.all_eq_true.mp h.2 e he)⟩
    | _ => simp [pl] at h
end W23
end
section
set_option Elab.async false
set_option maxRecDepth 10000
set_option linter.all false
set_option maxHeartbeats 4000000
namespace W23
open PySem L2 VS
def encW : Option Bt → D
  | none => .non
  | some b => .tup [.int b.1,.tup (b.2.map .int)]
theorem Jlw {bs : List (List St2)} : ∀ (k w : Nat) (ns : List Nat),∀ c ∈ Jbd bs k w ns,c.1.length = k
  | 0,w,ns,c,h => by
    rw [Jbd] at h
    split at h
    · simp at h
    · have : c = ([],ns) := by simpa using h
      rw [this]; rfl
  | k + 1,w,ns,c,h => by
    rw [Jbd] at h
    split at h
    · simp at h
    · obtain ⟨p,h1,h2⟩ := List.mem_flatMap.mp h
      obtain ⟨d,h3,rfl⟩ := List.mem_map.mp h2
      show d.1.length + 1 = k + 1
      rw [Jlw k (w + 1) _ d h3]
theorem JC8 (r : VS.Env) (S : Store) (b : List St2) (h : r[2]? = some (some (encB b))) (hc : b.length ≤ 3) : Jex r S = some ((lows b).map .int,S) := by
  have e : iSeq (eVar 2) r S = some ((b.map encS,[]),S) := by simp [Jaf,VS.listOf,Jav,VS.idOf,Jcd,-List.map_map,-Option.map_bind,h,encB]
  unfold Jex Jcs
  rw [e]
  simp only [Option.bind_some]
  rw [Jh1 (by simp) encS (fun p => .int p.1) b (by omega)]
  · unfold lows; rw [List.map_map]; rfl
  · intro p _
    exact ⟨_,by simp [capE,Jcp,Jes,Jct,Jcb,List.replicate_succ,-List.map_map,-Option.map_bind,encS]; rfl,by simp [Jaf,-List.map_map,-Option.map_bind]⟩
theorem JC9 (H : D) (o : Option Bt) (c : List St2 × List Nat) (hc : c.1.length ≤ 3) : Jey [some H,some (encW o),some (encB c.1),some (encN false c.2)] [] = some (.nx,[some H,some (encW (Jh5 o (bt c))),some (encB c.1),some (encN false c.2)],[]) := by
  have hlen : eCB bLen (Jac (eVar 3) aNil) [some H,some (encW o),some (encB c.1),some (encN false c.2)] [] = some (.int c.2.length,[]) := by simp [Jaf,Jai,Jad,Jb5,bLen,VS.listOf,Jav,-List.map_map,-Option.map_bind,encN]
  have c1 := JC8 [some H,some (encW o),some (encB c.1),some (encN false c.2)] [] c.1 rfl hc
  have s1 : (sSet 1 (eTup (Jac (eCB bLen (Jac (eVar 3) aNil)) (Jac (eCB bTup (Jac (eFrz Jex) aNil)) aNil)))) [some H,some (encW o),some (encB c.1),some (encN false c.2)] [] = some (.nx,[some H,some (encW (some (bt c))),some (encB c.1),some (encN false c.2)],[]) := by
    rw [Jaz,Jb1,Jad,hlen,Option.bind_some,Jad,Jb5,Jad,Jat,c1]
    simp [Jai,bTup,VS.listOf,Jav,-List.map_map,-Option.map_bind,encW,bt]
  unfold Jey
  cases o with
  | none =>
    have ts : tOr (tVal (eOp (oIsN false) (eVar 1) (eC .non))) (tVal (eOp oGt (eCB bLen (Jac (eVar 3) aNil)) (eOp oIx (eVar 1) (eC (.int 0))))) [some H,some (encW none),some (encB c.1),some (encN false c.2)] [] = some (true,[]) := by simp [Jaf,Jbj,Jap,Jai,Jad,Jb5,Jas,Jer,oI,yes2,oGt,oIsN,oIx,bLen,VS.listOf,Jav,-List.map_map,-Option.map_bind,encW]
    rw [Jnx ts]; exact s1
  | some b =>
    have ts : tOr (tVal (eOp (oIsN false) (eVar 1) (eC .non))) (tVal (eOp oGt (eCB bLen (Jac (eVar 3) aNil)) (eOp oIx (eVar 1) (eC (.int 0))))) [some H,some (encW (some b)),some (encB c.1),some (encN false c.2)] [] = some (decide (b.1 < c.2.length),[]) := by
      have n1 : tVal (eOp (oIsN false) (eVar 1) (eC .non)) [some H,some (encW (some b)),some (encB c.1),some (encN false c.2)] [] = some (false,[]) := by simp [Jaf,Jbj,Jap,Jas,oIsN,-List.map_map,-Option.map_bind,encW]
      have i0 : eOp oIx (eVar 1) (eC (.int 0)) [some H,some (encW (some b)),some (encB c.1),some (encN false c.2)] [] = some (.int b.1,[]) := by simp [Jaf,Jbj,Jap,oIx,VS.listOf,Jav,-List.map_map,-Option.map_bind,encW]
      rw [Jer,n1]
      simp only [Option.bind_some,Bool.false_eq_true,if_false]
      rw [Jas,Jap,hlen,Option.bind_some,i0]
      simp [oGt,oI,yes2]
    by_cases h : b.1 < c.2.length
    · rw [decide_eq_true h] at ts
      rw [Jnx ts,show Jh5 (some b) (bt c) = some (bt c) from if_pos h]; exact s1
    · rw [decide_eq_false h] at ts
      rw [Jq4 ts,show Jh5 (some b) (bt c) = some b from if_neg h]; rfl
theorem Jne (o : Option Bt) : Ja4 (encW o) = true := by
  cases o with
  | none => rfl
  | some b => simp [encW,Ja4,Jax]
theorem Jwb (o : Option Bt) : age (encW o) = encW o := by
  cases o with
  | none => rw [encW,age]
  | some b => simp [encW,age,ageL]
theorem Jo4 {n : Nat} {bs : List (List St2)} (g : Good n bs) : Ja3 [encH false n bs] = some (encW (((Jbd bs n 0 (List.range bs.length)).map bt).foldl Jh5 none)) := by
  have n3 := g.n3
  have h1 := Jnp (m := false) g
  have hc := Jv5 g
  have hin := Jlw (bs := bs) n 0 (List.range bs.length)
  have s1 : (sExp (Jbc Jc1 (Jac (eVar 0) aNil))) [some (encH false n bs),none,none,none] [] = some (.nx,[some (encH false n bs),none,none,none],[]) := by simp [Jht,Jaf,Jai,Jad,Jdq,denL,ageL,Jax,-List.map_map,-Option.map_bind,h1]
  have s2 : (sSet 1 (eC .non)) [some (encH false n bs),none,none,none] [] = some (.nx,[some (encH false n bs),some (encW none),none,none],[]) := by simp [Jaz,Jbj,-List.map_map,-Option.map_bind,encW]
  have e : iSeq (Jbc Jdd (Jac (eVar 0) aNil)) [some (encH false n bs),some (encW none),none,none] [] = some (((Jbd bs n 0 (List.range bs.length)).map encC,[]),[]) := by
    rw [Jcd,Jd8 (ds := [encH false n bs]) (S' := []) (by simp [Jaf,Jai,Jad,-List.map_map,-Option.map_bind]) (by simp [Jax,Ja4,encH]) (es := [encH false n bs]) (by simp [ageL,age,encH]) hc]
    simp [Jav,VS.listOf,VS.idOf]
  generalize Jbd bs n 0 (List.range bs.length) = cs at *
  have l1 : ∃ z2 z3,Jgc [some (encH false n bs),some (encW none),none,none] [] = some (.nx,[some (encH false n bs),some (encW ((cs.map bt).foldl Jh5 none)),z2,z3],[]) := by
    unfold Jgc
    rw [Jep,e]
    obtain ⟨env',S',e2,z2,z3,he,hS⟩ := Jej (w := []) (g := Pat.sem (.tp [(.nm 2),(.nm 3)])) (b := Jey) (ds := cs.map encC) (env := [some (encH false n bs),some (encW none),none,none]) (S := [])
      (fun i env S => ∃ z2 z3,env = [some (encH false n bs),some (encW (((cs.take i).map bt).foldl Jh5 none)),z2,z3] ∧ S = [])
      ⟨none,none,rfl,rfl⟩ (fun i env S _ => by simp) (fun i d env S hd q => by
        obtain ⟨z2,z3,he,hS⟩ := q
        subst he hS
        rw [List.getElem?_map] at hd
        obtain ⟨c,hc,rfl⟩ := Option.map_eq_some_iff.mp hd
        refine ⟨_,by simp [Jcp,Jes,Jct,Jcb,-List.map_map,-Option.map_bind,encC],_,_,JC9 (encH false n bs) (((cs.take i).map bt).foldl Jh5 none) c (by rw [hin c (List.mem_of_getElem? hc)]; omega),some (encB c.1),some (encN false c.2),?_,rfl⟩
        rw [List.take_succ,hc,Option.toList_some,List.map_append,List.foldl_append]
        rfl)
    subst he hS
    refine ⟨z2,z3,e2.trans ?_⟩
    have : (cs.map encC).length = cs.length := by simp
    rw [this,List.take_length]
  obtain ⟨z2,z3,l1⟩ := l1
  unfold Ja3
  rw [Jcr]
  simp only [List.length_cons,List.length_nil,List.map_cons,List.map_nil,Nat.reduceAdd,Nat.reduceSub,List.replicate_succ,List.replicate_zero,List.cons_append,List.nil_append,if_true]
  unfold Jjf
  rw [Jbq s1,Jbq s2,Jbq l1]
  simp [Ja2,Jaf,-List.map_map,-Option.map_bind,Jet 0 _ (Jne _)]
end W23
end
section
set_option Elab.async false
set_option maxRecDepth 10000
set_option linter.all false
set_option maxHeartbeats 4000000
namespace W23
open PySem L2 VS
theorem Jqc {bs : List (List St2)} : ∀ (k w : Nat),∀ c ∈ Jeo bs k w,c.length = k
  | 0,w,c,h => by
    have : c = [] := by simpa [Jeo] using h
    rw [this]; rfl
  | k + 1,w,c,h => by
    rw [Jeo] at h
    obtain ⟨q,h1,h2⟩ := List.mem_flatMap.mp h
    obtain ⟨d,h3,rfl⟩ := List.mem_map.mp h2
    show d.length + 1 = k + 1
    rw [Jqc k (w + 1) d h3]
theorem Jy5 {n : Nat} {bs : List (List St2)} (m m' : Bool) (S : Store) : eqP true S (encH m n bs) (encH m' n bs) = some (.bl false) := Jif 4 (Jj0 S m n bs) (Jj0 S m' n bs) (Ju9 0 n bs) (by decide)
theorem JDa (r : VS.Env) (S : Store) (b : List St2) (h : r[2]? = some (some (encB b))) (hc : b.length ≤ 3) : Jfn r S = some ((lows b).map .int,S) := by
  have e : iSeq (eVar 2) r S = some ((b.map encS,[]),S) := by simp [Jaf,VS.listOf,Jav,VS.idOf,Jcd,-List.map_map,-Option.map_bind,h,encB]
  unfold Jfn Jcs
  rw [e]
  simp only [Option.bind_some]
  rw [Jh1 (by simp) encS (fun p => .int p.1) b (by omega)]
  · unfold lows; rw [List.map_map]; rfl
  · intro p _
    exact ⟨_,by simp [capE,Jcp,Jes,Jct,Jcb,List.replicate_succ,-List.map_map,-Option.map_bind,encS]; rfl,by simp [Jaf,-List.map_map,-Option.map_bind]⟩
theorem JDc (H : D) (o : Option Bt) (c : List St2 × List Nat) (hc : c.1.length ≤ 3) (z4 : Option D) : Jfp [some H,some (encW o),some (encB c.1),some (encN true c.2),z4,none,none] [] = some (.nx,[some H,some (encW (Jf1 o (bt c))),some (encB c.1),some (encN true c.2),some (.tup ((lows c.1).map .int)),none,none],[]) := by
  have c1 := JDa [some H,some (encW o),some (encB c.1),some (encN true c.2),z4,none,none] [] c.1 rfl hc
  have s0 : (sSet 4 (eCB bTup (Jac (eFrz Jfn) aNil))) [some H,some (encW o),some (encB c.1),some (encN true c.2),z4,none,none] [] = some (.nx,[some H,some (encW o),some (encB c.1),some (encN true c.2),some (.tup ((lows c.1).map .int)),none,none],[]) := by
    rw [Jaz,Jb5,Jad,Jat,c1]
    simp [Jai,bTup,VS.listOf,Jav,-List.map_map,-Option.map_bind]
  have hlen : eCB bLen (Jac (eVar 3) aNil) [some H,some (encW o),some (encB c.1),some (encN true c.2),some (.tup ((lows c.1).map .int)),none,none] [] = some (.int c.2.length,[]) := by simp [Jaf,Jai,Jad,Jb5,bLen,VS.listOf,Jav,-List.map_map,-Option.map_bind,encN]
  have v4 : eVar 4 [some H,some (encW o),some (encB c.1),some (encN true c.2),some (.tup ((lows c.1).map .int)),none,none] [] = some (.tup ((lows c.1).map .int),[]) := rfl
  have s1 : (sSet 1 (eTup (Jac (eCB bLen (Jac (eVar 3) aNil)) (Jac (eVar 4) aNil)))) [some H,some (encW o),some (encB c.1),some (encN true c.2),some (.tup ((lows c.1).map .int)),none,none] [] = some (.nx,[some H,some (encW (some (bt c))),some (encB c.1),some (encN true c.2),some (.tup ((lows c.1).map .int)),none,none],[]) := by
    rw [Jaz,Jb1,Jad,hlen,Option.bind_some,Jad,v4]
    simp [Jai,-List.map_map,-Option.map_bind,encW,bt]
  unfold Jfp
  rw [Jbq s0]
  cases o with
  | none =>
    rw [Jnx (show _ = some (true,([] : Store)) by rw [Jer]; simp [Jaf,Jbj,Jap,Jai,Jad,Jb5,Jas,Jjx,Jer,oI,yes2,oGt,oEq,oIsN,oIx,bLen,VS.listOf,Jav,-List.map_map,-Option.map_bind,encW])]; exact s1
  | some b =>
    have i0 : eOp oIx (eVar 1) (eC (.int 0)) [some H,some (encW (some b)),some (encB c.1),some (encN true c.2),some (.tup ((lows c.1).map .int)),none,none] [] = some (.int b.1,[]) := by simp [Jaf,Jbj,Jap,oIx,VS.listOf,Jav,-List.map_map,-Option.map_bind,encW]
    have i1 : eOp oIx (eVar 1) (eC (.int 1)) [some H,some (encW (some b)),some (encB c.1),some (encN true c.2),some (.tup ((lows c.1).map .int)),none,none] [] = some (.tup (b.2.map .int),[]) := by simp [Jaf,Jbj,Jap,oIx,VS.listOf,Jav,-List.map_map,-Option.map_bind,encW]
    have n1 : tVal (eOp (oIsN false) (eVar 1) (eC .non)) [some H,some (encW (some b)),some (encB c.1),some (encN true c.2),some (.tup ((lows c.1).map .int)),none,none] [] = some (false,[]) := by simp [Jaf,Jbj,Jap,Jas,oIsN,-List.map_map,-Option.map_bind,encW]
    have g1 : tVal (eOp oGt (eCB bLen (Jac (eVar 3) aNil)) (eOp oIx (eVar 1) (eC (.int 0)))) [some H,some (encW (some b)),some (encB c.1),some (encN true c.2),some (.tup ((lows c.1).map .int)),none,none] [] = some (decide (b.1 < c.2.length),[]) := by
      rw [Jas,Jap,hlen,Option.bind_some,i0]
      simp [oGt,oI,yes2]
    have q1 : tVal (eOp (oEq false) (eCB bLen (Jac (eVar 3) aNil)) (eOp oIx (eVar 1) (eC (.int 0)))) [some H,some (encW (some b)),some (encB c.1),some (encN true c.2),some (.tup ((lows c.1).map .int)),none,none] [] = some (decide (c.2.length = b.1),[]) := by
      rw [Jas,Jap,hlen,Option.bind_some,i0]
      simp [oEq,-List.map_map,-Option.map_bind,Int.ofNat_inj]
    have t1 : tVal (eOp oLtT (eVar 4) (eOp oIx (eVar 1) (eC (.int 1)))) [some H,some (encW (some b)),some (encB c.1),some (encN true c.2),some (.tup ((lows c.1).map .int)),none,none] [] = some (HT.lexLt (lows c.1) b.2,[]) := by
      rw [Jas,Jap,v4,Option.bind_some,i1]
      simp [oLtT]
    have ts : tOr (tVal (eOp (oIsN false) (eVar 1) (eC .non))) (tOr (tVal (eOp oGt (eCB bLen (Jac (eVar 3) aNil)) (eOp oIx (eVar 1) (eC (.int 0))))) (tAnd (tVal (eOp (oEq false) (eCB bLen (Jac (eVar 3) aNil)) (eOp oIx (eVar 1) (eC (.int 0))))) (tVal (eOp oLtT (eVar 4) (eOp oIx (eVar 1) (eC (.int 1))))))) [some H,some (encW (some b)),some (encB c.1),some (encN true c.2),some (.tup ((lows c.1).map .int)),none,none] []
        = some (decide (b.1 < c.2.length ∨ (c.2.length = b.1 ∧ HT.lexLt (lows c.1) b.2 = true)),[]) := by
      rw [Jer,n1]
      simp only [Option.bind_some,Bool.false_eq_true,if_false]
      rw [Jer,g1]
      by_cases h1 : b.1 < c.2.length
      · simp [h1]
      · rw [show decide (b.1 < c.2.length) = false from decide_eq_false h1]
        simp only [Option.bind_some,Bool.false_eq_true,if_false]
        rw [Jjx,q1]
        by_cases h2 : c.2.length = b.1
        · simp [h2,t1]
        · simp [h1,h2]
    by_cases h : b.1 < c.2.length ∨ (c.2.length = b.1 ∧ HT.lexLt (lows c.1) b.2 = true)
    · rw [decide_eq_true h] at ts
      rw [Jnx ts,show Jf1 (some b) (bt c) = some (bt c) from if_pos h]; exact s1
    · rw [decide_eq_false h] at ts
      rw [Jq4 ts,show Jf1 (some b) (bt c) = some b from if_neg h]; rfl
theorem Jx6 {o : Option Bt} (h : ∀ b,o = some b → b.2.length ≤ 1000) : pl 3 (encW o) = true := by
  cases o with
  | none => rfl
  | some b =>
    have := h b rfl
    simp [encW,pl,this]
theorem JDb {n : Nat} {bs : List (List St2)} (g : Good n bs) (o : Option Bt) (ho : o = ((Jbd bs n 0 (List.range bs.length)).map bt).foldl Jh5 none) (hl : ∀ b,o = some b → b.2.length ≤ 1000) (z2 z3 z4 z6 : Option D) :
    Jfo [some (encH false n bs),some (encW o),z2,z3,z4,some (encH true n bs),z6] [] = some (.nx,[some (encH false n bs),some (encW o),z2,z3,z4,some (encH true n bs),z6],[]) := by
  have h1 := Jo4 g
  rw [← ho] at h1
  have h3 := Jxt 3 _ (Jx6 hl)
  have hp := Jne o
  have ha := Jwb o
  have c1 : (Jbc Ja3 (Jac (eVar 5) aNil)) [some (encH false n bs),some (encW o),z2,z3,z4,some (encH true n bs),z6] [] = some (encW o,[]) :=
    Jd8 (ds := [encH true n bs]) (es := [encH false n bs]) (S' := []) (by simp [Jad,Jai,Jaf]) (by simp [Jax,Ja4,encH,Jbg (Jcf bs)]) (by simp [ageL,age,encH]) h1
  have c2 : (Jbc (Jar 4) (Jac (Jbc Ja3 (Jac (eVar 5) aNil)) (Jac (eVar 1) aNil))) [some (encH false n bs),some (encW o),z2,z3,z4,some (encH true n bs),z6] [] = some (.bl true,[]) :=
    Jd8 (ds := [encW o,encW o]) (S' := []) (by rw [Jad,c1]; simp [Jad,Jai,Jaf]) (by simp [Jax,hp]) (by simp [ageL,ha]) h3
  have t3 : (tOr (tNot (tVal (Jbc (Jar 4) (Jac (Jbc Ja3 (Jac (eVar 5) aNil)) (Jac (eVar 1) aNil))))) (tVal (eOp (oEq true) (eVar 5) (eVar 0)))) [some (encH false n bs),some (encW o),z2,z3,z4,some (encH true n bs),z6] [] = some (false,[]) := by
    have he' : oEq true [] (encH true n bs) (encH false n bs) = some (.bl false) := Jy5 (n := n) (bs := bs) true false _
    rw [Jer,Jim,Jas,c2]
    simp [Jas,Jap,Jaf,he']
  unfold Jfo
  rw [Jq4 t3]; rfl
theorem Juq {n : Nat} {bs : List (List St2)} (g : Good n bs) : Jcc [encH false n bs] = some (.bl true) := by
  have n3 := g.n3
  have hc := Jsu g
  have hd : ∀ c ∈ Jeo bs n 0,c.length = n := Jqc n 0
  have e0 : ((Jeo bs n 0).map fun c => (c,atN bs (lows c))) = lawC bs 0 (List.range bs.length) (Jeo bs n 0) := by
    unfold lawC
    refine List.map_congr_left fun c hc => ?_
    rw [Jtw (fun b hb => (g.box b hb).1) (lows c) (by rw [lows,List.length_map]; exact hd c hc)]
  have hs := Jsl bs n
  rw [← e0] at hs
  have hin : ∀ c ∈ ((Jeo bs n 0).map fun c => (c,atN bs (lows c))).filter (fun c => decide (c.2 ≠ [])),c.1.length = n := fun c h => by
    obtain ⟨d,h1,rfl⟩ := List.mem_map.mp (List.mem_filter.mp h).1
    exact hd d h1
  have s1 : (sSet 1 (eC .non)) [some (encH false n bs),none,none,none,none,none,none] [] = some (.nx,[some (encH false n bs),some (encW none),none,none,none,none,none],[]) := by simp [Jaz,Jbj,-List.map_map,-Option.map_bind,encW]
  have e : iSeq (Jbc Jc2 (Jac (eVar 0) aNil)) [some (encH false n bs),some (encW none),none,none,none,none,none] [] = some (((((Jeo bs n 0).map fun c => (c,atN bs (lows c))).filter (fun c => decide (c.2 ≠ []))).map encD,[]),[]) := by
    rw [Jcd,Jd8 (ds := [encH false n bs]) (S' := []) (by simp [Jaf,Jai,Jad,-List.map_map,-Option.map_bind]) (by simp [Jax,Ja4,encH]) (es := [encH false n bs]) (by simp [ageL,age,encH]) hc]
    simp [Jav,VS.listOf,VS.idOf]
  generalize ((Jeo bs n 0).map fun c => (c,atN bs (lows c))).filter (fun c => decide (c.2 ≠ [])) = cs at *
  have l1 : ∃ z2 z3 z4,Jgy [some (encH false n bs),some (encW none),none,none,none,none,none] [] = some (.nx,[some (encH false n bs),some (encW ((cs.map bt).foldl Jf1 none)),z2,z3,z4,none,none],[]) := by
    unfold Jgy
    rw [Jep,e]
    obtain ⟨env',S',e2,z2,z3,z4,he,hS⟩ := Jej (w := []) (g := Pat.sem (.tp [(.nm 2),(.nm 3)])) (b := Jfp) (ds := cs.map encD) (env := [some (encH false n bs),some (encW none),none,none,none,none,none]) (S := [])
      (fun i env S => ∃ z2 z3 z4,env = [some (encH false n bs),some (encW (((cs.take i).map bt).foldl Jf1 none)),z2,z3,z4,none,none] ∧ S = [])
      ⟨none,none,none,rfl,rfl⟩ (fun i env S _ => by simp) (fun i d env S hd q => by
        obtain ⟨z2,z3,z4,he,hS⟩ := q
        subst he hS
        rw [List.getElem?_map] at hd
        obtain ⟨c,hc,rfl⟩ := Option.map_eq_some_iff.mp hd
        refine ⟨_,by simp [Jcp,Jes,Jct,Jcb,-List.map_map,-Option.map_bind,encD],_,_,JDc (encH false n bs) (((cs.take i).map bt).foldl Jf1 none) c (by rw [hin c (List.mem_of_getElem? hc)]; omega) z4,some (encB c.1),some (encN true c.2),some (.tup ((lows c.1).map .int)),?_,rfl⟩
        rw [List.take_succ,hc,Option.toList_some,List.map_append,List.foldl_append]
        rfl)
    subst he hS
    refine ⟨z2,z3,z4,e2.trans ?_⟩
    have : (cs.map encD).length = cs.length := by simp
    rw [this,List.take_length]
  obtain ⟨z2,z3,z4,l1⟩ := l1
  have hl : ∀ b,(cs.map bt).foldl Jf1 none = some b → b.2.length ≤ 1000 := fun b hb => by
    rcases Jhg (cs.map bt) none with ⟨z,_⟩ | ⟨c,g1,_,_,g4⟩
    · rw [z] at hb; cases hb
    · rw [g1] at hb
      cases hb
      obtain ⟨d,hd,rfl⟩ := List.mem_map.mp (g4.resolve_right (fun z => by cases z))
      show (lows d.1).length ≤ 1000
      rw [lows,List.length_map,hin d hd]; omega
  have s2 : (sSet 5 (eTup (Jac (eOp oIx (eVar 0) (eC (.int 0))) (Jac (Jtb nList (Jac (eOp oIx (eVar 0) (eC (.int 1))) aNil)) aNil)))) [some (encH false n bs),some (encW ((cs.map bt).foldl Jf1 none)),z2,z3,z4,none,none] [] = some (.nx,[some (encH false n bs),some (encW ((cs.map bt).foldl Jf1 none)),z2,z3,z4,some (encH true n bs),none],[]) := by
    simp [Jaz,Jaf,Jbj,Jap,Jai,Jad,Jb1,Jv4,oIx,nList,VS.listOf,Jav,-List.map_map,-Option.map_bind,encH]
  generalize (cs.map bt).foldl Jf1 none = o at *
  have l2 : ∃ env' S',Jgx [some (encH false n bs),some (encW o),z2,z3,z4,some (encH true n bs),none] [] = some (.nx,env',S') := by
    have e : Jc5 (Jac (eC (.int 2)) aNil) [some (encH false n bs),some (encW o),z2,z3,z4,some (encH true n bs),none] [] = some ((upD 0 2,[]),[]) := Jjb (j := 2) 2 (by simp [Jbj,Jai,Jad,-List.map_map,-Option.map_bind]) (by decide) (by decide) (by decide)
    unfold Jgx
    rw [Jep,e]
    obtain ⟨env',S',e2,_⟩ := Jej (w := []) (g := Pat.sem (.nm 6)) (b := Jfo) (ds := upD 0 2) (env := [some (encH false n bs),some (encW o),z2,z3,z4,some (encH true n bs),none]) (S := [])
      (fun i env S => (∃ z6,env = [some (encH false n bs),some (encW o),z2,z3,z4,some (encH true n bs),z6]) ∧ S = []) ⟨⟨none,rfl⟩,rfl⟩ (fun i env S _ => by simp) (fun i d env S hd q => by
        obtain ⟨⟨z6,he⟩,hS⟩ := q
        subst he hS
        exact ⟨_,Jcp _ _ _,_,_,JDb g o hs.symm hl z2 z3 z4 _,⟨_,rfl⟩,rfl⟩)
    exact ⟨env',S',e2⟩
  obtain ⟨env',S',l2⟩ := l2
  unfold Jcc
  rw [Jcr]
  simp only [List.length_cons,List.length_nil,List.map_cons,List.map_nil,Nat.reduceAdd,Nat.reduceSub,List.replicate_succ,List.replicate_zero,List.cons_append,List.nil_append,if_true]
  unfold Jkn
  rw [Jbq s1,Jbq l1,Jbq s2,Jbq l2]
  simp [Ja2,Jbj,den,-List.map_map,-Option.map_bind]
end W23
end
section
set_option Elab.async false
set_option maxRecDepth 10000
set_option linter.all false
set_option maxHeartbeats 4000000
namespace W23
open PySem L2 VS
theorem Jpv {n : Nat} {bs : List (List St2)} (g : Good n bs) {e : VS.Env} {S : Store} {i : Nat} (h3 : e[3]? = some (some (.tup [.int n,.ref i]))) (hi : S[i]? = some (some (bs.map encB))) : (Jbc Jcc (Jac (eVar 3) aNil)) e S = some (.bl true,S) :=
  Jto (ds := [.tup [.int n,.ref i]]) (es := [encH true n bs]) (fs := [encH false n bs]) (by simp [Jad,Jai,Jaf,h3]) (by simp [denL,den,hi,encH]) (by simp [ageL]) (Juq g) rfl
theorem Jxh (ns : List Int) (c : Int) (z2 z3 : Option D) (S : Store) : ∃ z2' z3' S',Jp9 [some (.scr ns),some (.int c),z2,z3] S = some (.nx,[some (.scr ns),some (.int c),z2',z3'],S') := by
  obtain ⟨x,y,w⟩ := Jxd c
  obtain ⟨n,bs,x',y',hh,g⟩ := Jm6 x y
  have few := g.few
  have s1 : (sSet 2 (Jn8 Jdc (Jac (eVar 1) aNil))) [some (.scr ns),some (.int c),z2,z3] S = some (.nx,[some (.scr ns),some (.int c),some (.ref S.length),z3],S ++ [some [.int x,.int y]]) := by
    rw [Jaz,Jud (Jd8 (ds := [.int c]) (S' := S) (by simp [Jad,Jai,Jaf]) (by simp [Jax,Ja4]) (by simp [ageL,age]) w) (by simp [thaw,Jd9,Jdl]; exact ⟨rfl,rfl⟩)]
    simp
  have s2 : (sSet 3 (Jn9 Jbe (Jac (eVar 2) aNil))) [some (.scr ns),some (.int c),some (.ref S.length),z3] (S ++ [some [.int x,.int y]]) = some (.nx,[some (.scr ns),some (.int c),some (.ref S.length),some (.tup [.int n,.ref (S.length + 1)])],S ++ [some [.int x',.int y'],some (bs.map encB)]) := by
    rw [Jaz,Jue (Jql (ns := [x,y]) (rest := []) (es := []) (i := S.length) (S' := S ++ [some [.int x,.int y]]) (by simp [Jad,Jai,Jaf]) (end0 _ _ _) rfl rfl hh) (d' := .tup [.int n,.ref (S.length + 1)]) (cs := bs.map encB) (by simp [thaw,Jrl,encH,Jdl,Jd9,Jcf bs])]
    simp
  have r1 := Jpv (e := [some (.scr ns),some (.int c),some (.ref S.length),some (.tup [.int n,.ref (S.length + 1)])]) (S := S ++ [some [.int x',.int y'],some (bs.map encB)]) (i := S.length + 1) g rfl (end1 _ _ _ _)
  have s3 : (sIf (tNot (tVal (Jbc Jcc (Jac (eVar 3) aNil)))) (sRet (eC (.bl false))) sNil) [some (.scr ns),some (.int c),some (.ref S.length),some (.tup [.int n,.ref (S.length + 1)])] (S ++ [some [.int x',.int y'],some (bs.map encB)]) = some (.nx,[some (.scr ns),some (.int c),some (.ref S.length),some (.tup [.int n,.ref (S.length + 1)])],S ++ [some [.int x',.int y'],some (bs.map encB)]) := by
    rw [Jq4 (by rw [Jim,Jas,r1]; rfl)]
    rfl
  have hx : (eOp oIx (eVar 3) (eC (.int 1))) [some (.scr ns),some (.int c),some (.ref S.length),some (.tup [.int n,.ref (S.length + 1)])] (S ++ [some [.int x',.int y'],some (bs.map encB)]) = some (.ref (S.length + 1),S ++ [some [.int x',.int y'],some (bs.map encB)]) := by
    simp [Jap,Jaf,Jbj,oIx,Jav]
  have hq : eqP true (S ++ [some [.int x',.int y'],some (bs.map encB)]) (.ref (S.length + 1)) (.lst true []) = some (.bl (!bs.isEmpty)) := by
    have := Jmp (neg := true) (m := true) 3 (Jpr (end1 S (some [.int x',.int y']) (some (bs.map encB)) [])) (Jj9 0 bs) (by decide)
    rw [this]
    cases bs <;> rfl
  have t4 : (tVal (eOp (oEq true) (eOp oIx (eVar 3) (eC (.int 1))) (eFrz aNil))) [some (.scr ns),some (.int c),some (.ref S.length),some (.tup [.int n,.ref (S.length + 1)])] (S ++ [some [.int x',.int y'],some (bs.map encB)]) = some (!bs.isEmpty,S ++ [some [.int x',.int y'],some (bs.map encB)]) := by
    rw [Jas,Jap,hx]
    simp [Jat,Jai,oEq,hq]
  unfold Jp9
  rw [Jbq s1,Jbq s2,Jbq s3]
  by_cases hb : bs = []
  · subst hb
    rw [Jq4 t4]
    exact ⟨_,_,_,rfl⟩
  · have t4' := t4
    have he : bs.isEmpty = false := by cases bs with
      | nil => exact absurd rfl hb
      | cons a r => rfl
    have hl : 0 < bs.length := List.length_pos_iff.mpr hb
    rw [he] at t4'
    rw [Jnx t4']
    obtain ⟨r,x2,y2,hd,r0,r1'⟩ := Jda x' y' bs.length (by omega) (by omega)
    have hlen : (eCB bLen (Jac (eOp oIx (eVar 3) (eC (.int 1))) aNil)) [some (.scr ns),some (.int c),some (.ref S.length),some (.tup [.int n,.ref (S.length + 1)])] (S ++ [some [.int x',.int y'],some (bs.map encB)]) = some (.int bs.length,S ++ [some [.int x',.int y'],some (bs.map encB)]) := by
      rw [Jb5,Jad,hx]
      simp [Jai,bLen,Jav,VS.listOf,end1]
    have hdr : (Jby Jal (Jac (eVar 2) (Jac (eCB bLen (Jac (eOp oIx (eVar 3) (eC (.int 1))) aNil)) aNil))) [some (.scr ns),some (.int c),some (.ref S.length),some (.tup [.int n,.ref (S.length + 1)])] (S ++ [some [.int x',.int y'],some (bs.map encB)]) = some (.int r,S ++ [some [.int x2,.int y2],some (bs.map encB)]) := by
      rw [Jql (ns := [x',y']) (rest := [.int bs.length]) (es := [.int bs.length]) (i := S.length) (S' := S ++ [some [.int x',.int y'],some (bs.map encB)]) (by rw [Jad,Jaf]; simp [Jad,Jai,hlen]) (end0 _ _ _) (by simp [Jax,Ja4]) (by simp [ageL,age]) hd,set0]
      rfl
    have hix : seqIndex? r (bs.map encB).length = some r.toNat := PySem.StrLaws.seqIndex_nonneg r0 (by rw [List.length_map]; exact r1')
    have hrn : r.toNat < bs.length := by omega
    have hget : (bs.map encB)[r.toNat]? = some (encB bs[r.toNat]) := by rw [List.getElem?_map,List.getElem?_eq_getElem hrn]; rfl
    have hpop : (Jjr Jle (eOp oIx (eVar 3) (eC (.int 1))) (Jac (Jby Jal (Jac (eVar 2) (Jac (eCB bLen (Jac (eOp oIx (eVar 3) (eC (.int 1))) aNil)) aNil))) aNil)) [some (.scr ns),some (.int c),some (.ref S.length),some (.tup [.int n,.ref (S.length + 1)])] (S ++ [some [.int x',.int y'],some (bs.map encB)]) = some (encB bs[r.toNat],S ++ [some [.int x2,.int y2],some ((bs.eraseIdx r.toNat).map encB)]) := by
      refine Jym hx (cs := bs.map encB) (by rw [VS.listOf,end1]; rfl) (ds := [.int r]) (S2 := S ++ [some [.int x2,.int y2],some (bs.map encB)]) (by rw [Jad,hdr]; rfl) ?_
      rw [Jle,end1]
      show (if -(2 ^ 63) ≤ r ∧ r < 2 ^ 63 then (seqIndex? r (bs.map encB).length).bind _ else _) = _
      rw [if_pos ⟨by omega,by omega⟩,hix]
      show ((bs.map encB)[r.toNat]?).bind _ = _
      rw [hget]
      show some (_,_) = _
      rw [set1,Jjd]
    have s5 : (sExp (Jjr Jle (eOp oIx (eVar 3) (eC (.int 1))) (Jac (Jby Jal (Jac (eVar 2) (Jac (eCB bLen (Jac (eOp oIx (eVar 3) (eC (.int 1))) aNil)) aNil))) aNil))) [some (.scr ns),some (.int c),some (.ref S.length),some (.tup [.int n,.ref (S.length + 1)])] (S ++ [some [.int x',.int y'],some (bs.map encB)]) = some (.nx,[some (.scr ns),some (.int c),some (.ref S.length),some (.tup [.int n,.ref (S.length + 1)])],S ++ [some [.int x2,.int y2],some ((bs.eraseIdx r.toNat).map encB)]) := by
      rw [Jht,hpop]; rfl
    rw [Jbq s5]
    have r2 := Jpv (e := [some (.scr ns),some (.int c),some (.ref S.length),some (.tup [.int n,.ref (S.length + 1)])]) (S := S ++ [some [.int x2,.int y2],some ((bs.eraseIdx r.toNat).map encB)]) (i := S.length + 1) (g.erase r.toNat) rfl (end1 _ _ _ _)
    rw [Jq4 (by rw [Jim,Jas,r2]; rfl)]
    exact ⟨_,_,_,rfl⟩
theorem Jvb : ∀ ns : List Int,ns.length ≤ 63 → Jop [.scr ns] = some (.bl true) := by
  intro ns hns
  obtain ⟨l,e⟩ : ∃ l : List Int,iSeq (eOp oAdd (eFrz (Jac (eC (.int 0)) (Jac (eC (.int 5)) aNil))) (eSl oSl (eVar 0) Jhw (Jhv (eC (.int 8))))) [some (.scr ns),none,none,none] [] = some ((l.map .int,[]),[]) := by
    obtain ⟨cs,hc,hl⟩ : ∃ cs : List Int,cut (ns.map D.int) none (some 8) = cs.map D.int ∧ cs.length ≤ 63 := by
      unfold cut
      rw [← List.map_drop,← List.map_take]
      exact ⟨_,rfl,by rw [List.length_take,List.length_drop]; omega⟩
    have hl2 : 2 + cs.length ≤ 1000000 := by omega
    refine ⟨0 :: 5 :: cs,?_⟩
    simp [Jaf,Jbj,Jap,Jai,Jad,Jew,Jev,Jig,Jat,oAdd,oSl,VS.listOf,Jav,VS.idOf,Jcd,-List.map_map,-Option.map_bind,hc,hl2]
  have l1 : ∃ z1 z2 z3 S',Jsv [some (.scr ns),none,none,none] [] = some (.nx,[some (.scr ns),z1,z2,z3],S') := by
    unfold Jsv
    rw [Jep,e]
    obtain ⟨env',S',e2,z1,z2,z3,he⟩ := Jej (w := []) (g := Pat.sem (.nm 1)) (b := Jp9) (ds := l.map .int) (env := [some (.scr ns),none,none,none]) (S := [])
      (fun _ env S => ∃ z1 z2 z3,env = [some (.scr ns),z1,z2,z3]) ⟨_,_,_,rfl⟩ (fun i env S _ => by simp) (fun j d env S hd ⟨z1,z2,z3,he⟩ => by
        rw [List.getElem?_map] at hd
        obtain ⟨c,hc,rfl⟩ := Option.map_eq_some_iff.mp hd
        subst he
        obtain ⟨z2',z3',S',e3⟩ := Jxh ns c z2 z3 S
        exact ⟨_,Jcp _ _ _,_,_,e3,_,_,_,rfl⟩)
    subst he
    exact ⟨z1,z2,z3,S',e2⟩
  obtain ⟨z1,z2,z3,S',l1⟩ := l1
  have gA : Good 1 [[((0 : Int),(3 : Int))],[(2,7)]] := ⟨.inl rfl,by simp,by simp⟩
  have gB : Good 3 [] := ⟨.inr (.inr rfl),by simp,by simp⟩
  have hA := Jo4 gA
  have hB := Jo4 gB
  have hs : Jbx [[((0 : Int),(3 : Int))],[(2,7)]] 0 (List.range 2) = [0,2,3,7] := (Jlb (ns := [0,2,3,7]) (ms := [0,2,3,7]) (by decide) (by decide)).symm
  have vA : ((Jbd [[((0 : Int),(3 : Int))],[(2,7)]] 1 0 (List.range 2)).map bt).foldl Jh5 none = some (2,[2]) := by
    rw [Jbd,if_neg (by decide),hs]
    decide
  have vB : ((Jbd [] 3 0 (List.range 0)).map bt).foldl Jh5 none = none := rfl
  rw [show ([[((0 : Int),(3 : Int))],[(2,7)]] : List (List St2)).length = 2 from rfl,vA] at hA
  rw [show ([] : List (List St2)).length = 0 from rfl,vB] at hB
  have cA : (Jbc Ja3 (Jac (eTup (Jac (eC (.int 1)) (Jac (eFrz (Jac (eTup (Jac (eTup (Jac (eC (.int 0)) (Jac (eC (.int 3)) aNil))) aNil)) (Jac (eTup (Jac (eTup (Jac (eC (.int 2)) (Jac (eC (.int 7)) aNil))) aNil)) aNil))) aNil))) aNil)) [some (.scr ns),z1,z2,z3] S' = some (.tup [.int 2,.tup [.int 2]],S') :=
    Jd8 (ds := [encH true 1 [[((0 : Int),(3 : Int))],[(2,7)]]]) (S' := S') (by simp [Jad,Jai,Jbj,Jb1,Jat,encH,encB,encS]) (by simp [Jax,Ja4]) (by simp [ageL,age]) hA
  have cB : (Jbc Ja3 (Jac (eTup (Jac (eC (.int 3)) (Jac (eFrz aNil) aNil))) aNil)) [some (.scr ns),z1,z2,z3] S' = some (.non,S') :=
    Jd8 (ds := [encH true 3 []]) (S' := S') (by simp [Jad,Jai,Jbj,Jb1,Jat,encH,encB,encS]) (by simp [Jax,Ja4]) (by simp [ageL,age]) hB
  have qA : ∀ S : Store,oEq false S (.tup [.int 2,.tup [.int 2]]) (.tup [.int 2,.tup [.int 2]]) = some (.bl true) := fun S => Jif (p := .tuple [.int 2,.tuple [.int 2]]) 2 (by simp [seeP,VS.den,denL,toP,toPL]) (by simp [seeP,VS.den,denL,toP,toPL]) rfl (by decide)
  unfold Jop
  rw [Jcr]
  simp only [List.length_cons,List.length_nil,List.map_cons,List.map_nil,Nat.reduceAdd,Nat.reduceSub,List.replicate_succ,List.replicate_zero,List.cons_append,List.nil_append,if_true]
  unfold JBq
  rw [Jbq l1]
  simp [Ja2,Jg9,Jap,Jbj,Jb1,Jad,Jai,qA,oIsN,cA,cB,den]
end W23
end
section
set_option Elab.async false
set_option maxRecDepth 10000
set_option linter.all false
set_option maxHeartbeats 4000000
def PySem.W.Fast.tw17801044929323188017 : Nat := 0
def PySem.W.Fast.tw4295413638084267604 : Nat := 0
def PySem.W.Fast.tw17129720018458324812 : Nat := 0
def PySem.W.Fast.tw17271943262191260078 : Nat := 0
def PySem.W.Fast.tw1221429310451356532 : Nat := 0
def PySem.W.Fast.tw17945156763703334250 : Nat := 0
def PySem.W.Fast.tw16786834374601082230 : Nat := 0
def PySem.W.Fast.tw10368813833791711502 : Nat := 0
def PySem.W.Fast.tw2801747676667336935 : Nat := 0
def PySem.W.Fast.tw823812742527369639 : Nat := 0
def PySem.W.Fast.tw3966107863224399643 : Nat := 0
def PySem.W.Fast.tw7817295410194267080 : Nat := 0
def PySem.W.Fast.tw16200026772498758536 : Nat := 0
def PySem.W.Fast.tw5399699327719600543 : Nat := 0
def PySem.W.Fast.tw8863872118029639080 : Nat := 0
def PySem.W.Fast.tw83881853496946147 : Nat := 0
def PySem.W.Fast.tw14625735459629586429 : Nat := 0
def PySem.W.Fast.tw3618040876618358588 : Nat := 0
def PySem.W.Fast.tw11882279913123563169 : Nat := 0
def PySem.W.Fast.tw4235561181394659565 : Nat := 0
def PySem.W.Fast.tw18264617288398718228 : Nat := 0
def PySem.W.Fast.tw17325873851985966972 : Nat := 0
def PySem.W.Fast.tw16209726050482213874 : Nat := 0
def PySem.W.Fast.tw5468208745441728458 : Nat := 0
def PySem.W.Fast.tw3623476739553353198 : Nat := 0
def PySem.W.Fast.tw3864662786508659210 : Nat := 0
def PySem.W.Fast.tw190617708749788557 : Nat := 0
def PySem.W.Fast.tw9990057930071420042 : Nat := 0
def PySem.W.Fast.tw3508982291071505319 : Nat := 0
def PySem.W.Fast.tw4596940643144078908 : Nat := 0
def PySem.W.Fast.tw2811563430710051777 : Nat := 0
def PySem.W.Fast.tw2265402447658561413 : Nat := 0
def PySem.W.Fast.tw1455548270563037506 : Nat := 0
def PySem.W.Fast.tw10312215864439400730 : Nat := 0
def PySem.W.Fast.tw12819079953021499522 : Nat := 0
def PySem.W.Fast.tw12148581694627027040 : Nat := 0
def PySem.W.Fast.tw12440035966421626114 : Nat := 0
def PySem.W.Fast.tw10131422408090716882 : Nat := 0
def PySem.W.Fast.tw6408925323443582168 : Nat := 0
def PySem.W.Fast.tw6411753285375474280 : Nat := 0
def PySem.W.Fast.tw1179139059805424964 : Nat := 0
def PySem.W.Fast.tw6869662219679477608 : Nat := 0
def PySem.W.Fast.tw8699257075593824863 : Nat := 0
def PySem.W.Fast.tw17291164337300996822 : Nat := 0
def PySem.W.Fast.tw9088796751997998177 : Nat := 0
def PySem.W.Fast.tw9704472204258081128 : Nat := 0
def PySem.W.Fast.tw9059031911228265901 : Nat := 0
def PySem.W.Fast.tw3920567299520745085 : Nat := 0
def PySem.W.Fast.tw5443747533615451894 : Nat := 0
def PySem.W.Fast.tw7641161599522759442 : Nat := 0
def PySem.W.Fast.tw17270484262611584446 : Nat := 0
def PySem.W.Fast.tw5336034647330047798 : Nat := 0
def PySem.W.Fast.tw324994752002502301 : Nat := 0
def PySem.W.Fast.tw16375439143500937482 : Nat := 0
def PySem.W.Fast.tw8060586696536886524 : Nat := 0
def PySem.W.Fast.tw16376096220426820989 : Nat := 0
def PySem.W.Fast.tw3586880177952244336 : Nat := 0
def PySem.W.Fast.tw4799465315275675782 : Nat := 0
def PySem.W.Fast.tw17064567082804805449 : Nat := 0
def PySem.W.Fast.tw10841838236128710560 : Nat := 0
def PySem.W.Fast.tw13232002484627064660 : Nat := 0
def PySem.W.Fast.tw16109615739820723701 : Nat := 0
def PySem.W.Fast.tw12916071597571822516 : Nat := 0
def PySem.W.Fast.tw9147958769105235549 : Nat := 0
def PySem.W.Fast.tw487904483349599983 : Nat := 0
def PySem.W.Fast.tw1709375700495604226 : Nat := 0
def PySem.W.Fast.tw6782008572594776984 : Nat := 0
def PySem.W.Fast.tw6040462107639914220 : Nat := 0
def PySem.W.Fast.tw18298892389727992498 : Nat := 0
def PySem.W.Fast.tw13272542215834829703 : Nat := 0
def PySem.W.Fast.tw9362744785935761480 : Nat := 0
def PySem.W.Fast.tw9946309131965330321 : Nat := 0
def PySem.W.Fast.tw10065337722500685794 : Nat := 0
def PySem.W.Fast.tw17682173327881695105 : Nat := 0
def PySem.W.Fast.tw12697740633967840836 : Nat := 0
def PySem.W.Fast.tw16531521279272021656 : Nat := 0
def PySem.W.Fast.tw10171376042016466977 : Nat := 0
def PySem.W.Fast.tw9391522781075248254 : Nat := 0
def PySem.W.Fast.tw3462476760339066869 : Nat := 0
def PySem.W.Fast.tw6134044368186816697 : Nat := 0
def PySem.W.Fast.tw17220322698800711719 : Nat := 0
def PySem.W.Fast.tw14494954779395336718 : Nat := 0
def PySem.W.Fast.tw11544332578893372743 : Nat := 0
def PySem.W.Fast.tw1495587637363261593 : Nat := 0
def PySem.W.Fast.tw10289119770152115223 : Nat := 0
def PySem.W.Fast.tw9261528454848432112 : Nat := 0
def PySem.W.Fast.tw2464890037829892523 : Nat := 0
def PySem.W.Fast.tw746436187643033508 : Nat := 0
def PySem.W.Fast.tw16386208940031689247 : Nat := 0
def PySem.W.Fast.tw9966423636880854284 : Nat := 0
def PySem.W.Fast.tw4987720507642312809 : Nat := 0
def PySem.W.Fast.tw7666514732732677987 : Nat := 0
def PySem.W.Fast.tw16572062751012254243 : Nat := 0
def PySem.W.Fast.tw3261771664316251869 : Nat := 0
def PySem.W.Fast.tw12289556955394581733 : Nat := 0
def PySem.W.Fast.tw1707792273456326753 : Nat := 0
def PySem.W.Fast.tw8436648706538985364 : Nat := 0
def PySem.W.Fast.tw953186698116147414 : Nat := 0
def PySem.W.Fast.tw17686803195316948302 : Nat := 0
def PySem.W.Fast.tw12741794098638408014 : Nat := 0
def PySem.W.Fast.tw12352139132080318270 : Nat := 0
def PySem.W.Fast.tw78344265633706951 : Nat := 0
def PySem.W.Fast.tw9193968230590369887 : Nat := 0
def PySem.W.Fast.tw13416487637510642458 : Nat := 0
def PySem.W.Fast.tw16348126891295201049 : Nat := 0
def PySem.W.Fast.tw6193440698423306756 : Nat := 0
def PySem.W.Fast.tw17117613679794980851 : Nat := 0
def PySem.W.Fast.tw15720043467113875441 : Nat := 0
def PySem.W.Fast.tw10686074750293216293 : Nat := 0
def PySem.W.Fast.tw13970639309465203271 : Nat := 0
def PySem.W.Fast.tw8847718505537979697 : Nat := 0
def PySem.W.Fast.tw10859226370480583547 : Nat := 0
def PySem.W.Fast.tw7193960213291304658 : Nat := 0
def PySem.W.Fast.tw3832746914800912672 : Nat := 0
def PySem.W.Fast.tw11300896838530165314 : Nat := 0
def PySem.W.Fast.tw8100475728696526102 : Nat := 0
def PySem.W.Fast.tw14025196800917215615 : Nat := 0
def PySem.W.Fast.tw8656168616186352386 : Nat := 0
def PySem.W.Fast.tw10896406532899464116 : Nat := 0
def PySem.W.Fast.tw3187217867049290687 : Nat := 0
def PySem.W.Fast.tw5630680119885453676 : Nat := 0
def PySem.W.Fast.tw5514603184592590303 : Nat := 0
def PySem.W.Fast.tw3212619061434409905 : Nat := 0
def PySem.W.Fast.tw1669535172949100907 : Nat := 0
def PySem.W.Fast.tw5390974348160080361 : Nat := 0
def PySem.W.Fast.tw7194321531987589885 : Nat := 0
def PySem.W.Fast.tw6468182371953499255 : Nat := 0
def PySem.W.Fast.tw5957718089032906835 : Nat := 0
def PySem.W.Fast.tw9419360392026456105 : Nat := 0
def PySem.W.Fast.tw8329147516112281247 : Nat := 0
def PySem.W.Fast.tw7914256804824514948 : Nat := 0
def PySem.W.Fast.tw6426386793896161673 : Nat := 0
def PySem.W.Fast.tw5773742759526016571 : Nat := 0
def PySem.W.Fast.tw5582117626367394401 : Nat := 0
def PySem.W.Fast.tw5314618148680200676 : Nat := 0
def PySem.W.Fast.tw4762449775714513386 : Nat := 0
def PySem.W.Fast.tw4330935745625507282 : Nat := 0
def PySem.W.Fast.tw4174259236506363474 : Nat := 0
def PySem.W.Fast.tw394961835078890083 : Nat := 0
def PySem.W.Fast.tw378154791129714163 : Nat := 0
def PySem.W.Fast.tw3620107659727313897 : Nat := 0
def PySem.W.Fast.tw3464616328660697380 : Nat := 0
def PySem.W.Fast.tw3201356707647730039 : Nat := 0
def PySem.W.Fast.tw2756714125818301260 : Nat := 0
def PySem.W.Fast.tw239488481811581722 : Nat := 0
def PySem.W.Fast.tw1922916825407423043 : Nat := 0
def PySem.W.Fast.tw18337548227135483125 : Nat := 0
def PySem.W.Fast.tw18305853679973136467 : Nat := 0
def PySem.W.Fast.tw17269183804773380551 : Nat := 0
def PySem.W.Fast.tw16988362697118832756 : Nat := 0
def PySem.W.Fast.tw16939301763749884282 : Nat := 0
def PySem.W.Fast.tw16612265940774358836 : Nat := 0
def PySem.W.Fast.tw16153727693194228917 : Nat := 0
def PySem.W.Fast.tw15072161485716432585 : Nat := 0
def PySem.W.Fast.tw15000105064938573579 : Nat := 0
def PySem.W.Fast.tw14395739188692566958 : Nat := 0
def PySem.W.Fast.tw14008703885175153780 : Nat := 0
def PySem.W.Fast.tw13928961221537934789 : Nat := 0
def PySem.W.Fast.tw13516137373098370309 : Nat := 0
def PySem.W.Fast.tw1326084902800416386 : Nat := 0
def PySem.W.Fast.tw1251224511137970933 : Nat := 0
def PySem.W.Fast.tw11214795044639626158 : Nat := 0
def PySem.W.Fast.tw11149383214416979041 : Nat := 0
def PySem.W.Fast.tw11143669514226913411 : Nat := 0
def PySem.W.Fast.tw10985232301725503191 : Nat := 0
def PySem.W.Fast.tw10882204212677406396 : Nat := 0
def PySem.W.Fast.tw10879108829849698993 : Nat := 0
def PySem.W.Fast.tw10645320268014239844 : Nat := 0
def PySem.W.Fast.tw10582759003605261414 : Nat := 0
def PySem.W.Fast.tw10144308017170567313 : Nat := 0
namespace W23
open PySem PySem.Spec L2 VS
theorem tln1 : ∀ {us : List Value},us.length = 1 → ∃ a0,us = [a0]
  | [a0],_ => ⟨a0,rfl⟩
theorem tln2 : ∀ {us : List Value},us.length = 2 → ∃ a0 a1,us = [a0,a1]
  | [a0,a1],_ => ⟨a0,a1,rfl⟩
theorem tln3 : ∀ {us : List Value},us.length = 3 → ∃ a0 a1 a2,us = [a0,a1,a2]
  | [a0,a1,a2],_ => ⟨a0,a1,a2,rfl⟩
theorem tln4 : ∀ {us : List Value},us.length = 4 → ∃ a0 a1 a2 a3,us = [a0,a1,a2,a3]
  | [a0,a1,a2,a3],_ => ⟨a0,a1,a2,a3,rfl⟩
theorem tops {l : PySem.W.OpenLaw} {w : World} {K : PySem.W.Frag} {h : Heap} {mg : Str → Option Value} {fa dM : Addr} {f1 f2 f3 f4 f5 f6 f7 f8 f9 f10 f11 f12 f13 f14 f15 f16 f17 f18 f19 f20 f21 f22 f23 : Addr} (X : K.In h) (G : h.Ns mainGlobals mg) (hfa : mg "law" = some (.ref fa))
    {od1 an1 od2 an2 od3 an3 od4 an4 od5 an5 od6 an6 od7 an7 od8 an8 od9 an9 od10 an10 od11 an11 od12 an12 od13 an13 od14 an14 od15 an15 od16 an16 od17 an17 od18 an18 od19 an19 od20 an20 od21 an21 od22 an22 od23 an23 : Option Addr} {sl1 sl2 sl3 sl4 sl5 sl6 sl7 sl8 sl9 sl10 sl11 sl12 sl13 sl14 sl15 sl16 sl17 sl18 sl19 sl20 sl21 sl22 sl23 : Array (Option Value)} {oc1 kV1 dc1 pm1 cd1 ct1 oc2 kV2 dc2 pm2 cd2 ct2 oc3 kV3 dc3 pm3 cd3 ct3 oc4 kV4 dc4 pm4 cd4 ct4 oc5 kV5 dc5 pm5 cd5 ct5 oc6 kV6 dc6 pm6 cd6 ct6 oc7 kV7 dc7 pm7 cd7 ct7 oc8 kV8 dc8 pm8 cd8 ct8 oc9 kV9 dc9 pm9 cd9 ct9 oc10 kV10 dc10 pm10 cd10 ct10 oc11 kV11 dc11 pm11 cd11 ct11 oc12 kV12 dc12 pm12 cd12 ct12 oc13 kV13 dc13 pm13 cd13 ct13 oc14 kV14 dc14 pm14 cd14 ct14 oc15 kV15 dc15 pm15 cd15 ct15 oc16 kV16 dc16 pm16 cd16 ct16 oc17 kV17 dc17 pm17 cd17 ct17 oc18 kV18 dc18 pm18 cd18 ct18 oc19 kV19 dc19 pm19 cd19 ct19 oc20 kV20 dc20 pm20 cd20 ct20 oc21 kV21 dc21 pm21 cd21 ct21 oc22 kV22 dc22 pm22 cd22 ct22 oc23 kV23 dc23 pm23 cd23 ct23 : Value}
    (a1 : PySem.W.nsIn K mainGlobals "is_whole" = some (some (.ref f1))) (l1 : K.lookup f1 = some ⟨oc1,od1,.func (PySem.W.fnOf "is_whole" "is_whole" (Jb2 Je9) (Jbk Je9) (Jag Je9) .none kV1 dc1 pm1 an1 cd1 ct1),sl1⟩) (c1 : PySem.W.codeIn K cd1 "is_whole" = true) (k1 : PySem.W.keepIn K (.ref f1) = true)
    (a2 : PySem.W.nsIn K mainGlobals "are_ways" = some (some (.ref f2))) (l2 : K.lookup f2 = some ⟨oc2,od2,.func (PySem.W.fnOf "are_ways" "are_ways" (Jb2 Jfb) (Jbk Jfb) (Jag Jfb) .none kV2 dc2 pm2 an2 cd2 ct2),sl2⟩) (c2 : PySem.W.codeIn K cd2 "are_ways" = true) (k2 : PySem.W.keepIn K (.ref f2) = true)
    (a3 : PySem.W.nsIn K mainGlobals "is_stretch" = some (some (.ref f3))) (l3 : K.lookup f3 = some ⟨oc3,od3,.func (PySem.W.fnOf "is_stretch" "is_stretch" (Jb2 Jdu) (Jbk Jdu) (Jag Jdu) .none kV3 dc3 pm3 an3 cd3 ct3),sl3⟩) (c3 : PySem.W.codeIn K cd3 "is_stretch" = true) (k3 : PySem.W.keepIn K (.ref f3) = true)
    (a4 : PySem.W.nsIn K mainGlobals "is_box" = some (some (.ref f4))) (l4 : K.lookup f4 = some ⟨oc4,od4,.func (PySem.W.fnOf "is_box" "is_box" (Jb2 Jga) (Jbk Jga) (Jag Jga) .none kV4 dc4 pm4 an4 cd4 ct4),sl4⟩) (c4 : PySem.W.codeIn K cd4 "is_box" = true) (k4 : PySem.W.keepIn K (.ref f4) = true)
    (a5 : PySem.W.nsIn K mainGlobals "is_heap" = some (some (.ref f5))) (l5 : K.lookup f5 = some ⟨oc5,od5,.func (PySem.W.fnOf "is_heap" "is_heap" (Jb2 Jfd) (Jbk Jfd) (Jag Jfd) .none kV5 dc5 pm5 an5 cd5 ct5),sl5⟩) (c5 : PySem.W.codeIn K cd5 "is_heap" = true) (k5 : PySem.W.keepIn K (.ref f5) = true)
    (a6 : PySem.W.nsIn K mainGlobals "need_heap" = some (some (.ref f6))) (l6 : K.lookup f6 = some ⟨oc6,od6,.func (PySem.W.fnOf "need_heap" "need_heap" (Jb2 Jed) (Jbk Jed) (Jag Jed) .none kV6 dc6 pm6 an6 cd6 ct6),sl6⟩) (c6 : PySem.W.codeIn K cd6 "need_heap" = true) (k6 : PySem.W.keepIn K (.ref f6) = true)
    (a7 : PySem.W.nsIn K mainGlobals "ends_along" = some (some (.ref f7))) (l7 : K.lookup f7 = some ⟨oc7,od7,.func (PySem.W.fnOf "ends_along" "ends_along" (Jb2 Jcy) (Jbk Jcy) (Jag Jcy) .none kV7 dc7 pm7 an7 cd7 ct7),sl7⟩) (c7 : PySem.W.codeIn K cd7 "ends_along" = true) (k7 : PySem.W.keepIn K (.ref f7) = true)
    (a8 : PySem.W.nsIn K mainGlobals "steps_along" = some (some (.ref f8))) (l8 : K.lookup f8 = some ⟨oc8,od8,.func (PySem.W.fnOf "steps_along" "steps_along" (Jb2 Jdi) (Jbk Jdi) (Jag Jdi) .none kV8 dc8 pm8 an8 cd8 ct8),sl8⟩) (c8 : PySem.W.codeIn K cd8 "steps_along" = true) (k8 : PySem.W.keepIn K (.ref f8) = true)
    (a9 : PySem.W.nsIn K mainGlobals "cells_from" = some (some (.ref f9))) (l9 : K.lookup f9 = some ⟨oc9,od9,.func (PySem.W.fnOf "cells_from" "cells_from" (Jb2 Jcz) (Jbk Jcz) (Jag Jcz) .none kV9 dc9 pm9 an9 cd9 ct9),sl9⟩) (c9 : PySem.W.codeIn K cd9 "cells_from" = true) (k9 : PySem.W.keepIn K (.ref f9) = true)
    (a10 : PySem.W.nsIn K mainGlobals "cells_of" = some (some (.ref f10))) (l10 : K.lookup f10 = some ⟨oc10,od10,.func (PySem.W.fnOf "cells_of" "cells_of" (Jb2 Jfa) (Jbk Jfa) (Jag Jfa) .none kV10 dc10 pm10 an10 cd10 ct10),sl10⟩) (c10 : PySem.W.codeIn K cd10 "cells_of" = true) (k10 : PySem.W.keepIn K (.ref f10) = true)
    (a11 : PySem.W.nsIn K mainGlobals "most_often" = some (some (.ref f11))) (l11 : K.lookup f11 = some ⟨oc11,od11,.func (PySem.W.fnOf "most_often" "most_often" (Jb2 Jdf) (Jbk Jdf) (Jag Jdf) .none kV11 dc11 pm11 an11 cd11 ct11),sl11⟩) (c11 : PySem.W.codeIn K cd11 "most_often" = true) (k11 : PySem.W.keepIn K (.ref f11) = true)
    (a12 : PySem.W.nsIn K mainGlobals "_law_well" = some (some (.ref f12))) (l12 : K.lookup f12 = some ⟨oc12,od12,.func (PySem.W.fnOf "_law_well" "_law_well" (Jb2 Je7) (Jbk Je7) (Jag Je7) .none kV12 dc12 pm12 an12 cd12 ct12),sl12⟩) (c12 : PySem.W.codeIn K cd12 "_law_well" = true) (k12 : PySem.W.keepIn K (.ref f12) = true)
    (a13 : PySem.W.nsIn K mainGlobals "_law_draw" = some (some (.ref f13))) (l13 : K.lookup f13 = some ⟨oc13,od13,.func (PySem.W.fnOf "_law_draw" "_law_draw" (Jb2 Je8) (Jbk Je8) (Jag Je8) .none kV13 dc13 pm13 an13 cd13 ct13),sl13⟩) (c13 : PySem.W.codeIn K cd13 "_law_draw" = true) (k13 : PySem.W.keepIn K (.ref f13) = true)
    (a14 : PySem.W.nsIn K mainGlobals "_law_marks" = some (some (.ref f14))) (l14 : K.lookup f14 = some ⟨oc14,od14,.func (PySem.W.fnOf "_law_marks" "_law_marks" (Jb2 Jds) (Jbk Jds) (Jag Jds) .none kV14 dc14 pm14 an14 cd14 ct14),sl14⟩) (c14 : PySem.W.codeIn K cd14 "_law_marks" = true) (k14 : PySem.W.keepIn K (.ref f14) = true)
    (a15 : PySem.W.nsIn K mainGlobals "_law_stretch" = some (some (.ref f15))) (l15 : K.lookup f15 = some ⟨oc15,od15,.func (PySem.W.fnOf "_law_stretch" "_law_stretch" (Jb2 Jdj) (Jbk Jdj) (Jag Jdj) .none kV15 dc15 pm15 an15 cd15 ct15),sl15⟩) (c15 : PySem.W.codeIn K cd15 "_law_stretch" = true) (k15 : PySem.W.keepIn K (.ref f15) = true)
    (a16 : PySem.W.nsIn K mainGlobals "_law_near" = some (some (.ref f16))) (l16 : K.lookup f16 = some ⟨oc16,od16,.func (PySem.W.fnOf "_law_near" "_law_near" (Jb2 Jef) (Jbk Jef) (Jag Jef) .none kV16 dc16 pm16 an16 cd16 ct16),sl16⟩) (c16 : PySem.W.codeIn K cd16 "_law_near" = true) (k16 : PySem.W.keepIn K (.ref f16) = true)
    (a17 : PySem.W.nsIn K mainGlobals "_law_heap" = some (some (.ref f17))) (l17 : K.lookup f17 = some ⟨oc17,od17,.func (PySem.W.fnOf "_law_heap" "_law_heap" (Jb2 Jdk) (Jbk Jdk) (Jag Jdk) .none kV17 dc17 pm17 an17 cd17 ct17),sl17⟩) (c17 : PySem.W.codeIn K cd17 "_law_heap" = true) (k17 : PySem.W.keepIn K (.ref f17) = true)
    (a18 : PySem.W.nsIn K mainGlobals "_law_some_heap" = some (some (.ref f18))) (l18 : K.lookup f18 = some ⟨oc18,od18,.func (PySem.W.fnOf "_law_some_heap" "_law_some_heap" (Jb2 Jcv) (Jbk Jcv) (Jag Jcv) .none kV18 dc18 pm18 an18 cd18 ct18),sl18⟩) (c18 : PySem.W.codeIn K cd18 "_law_some_heap" = true) (k18 : PySem.W.keepIn K (.ref f18) = true)
    (a19 : PySem.W.nsIn K mainGlobals "_law_holds" = some (some (.ref f19))) (l19 : K.lookup f19 = some ⟨oc19,od19,.func (PySem.W.fnOf "_law_holds" "_law_holds" (Jb2 Jeg) (Jbk Jeg) (Jag Jeg) .none kV19 dc19 pm19 an19 cd19 ct19),sl19⟩) (c19 : PySem.W.codeIn K cd19 "_law_holds" = true) (k19 : PySem.W.keepIn K (.ref f19) = true)
    (a20 : PySem.W.nsIn K mainGlobals "_law_cells" = some (some (.ref f20))) (l20 : K.lookup f20 = some ⟨oc20,od20,.func (PySem.W.fnOf "_law_cells" "_law_cells" (Jb2 Jca) (Jbk Jca) (Jag Jca) .none kV20 dc20 pm20 an20 cd20 ct20),sl20⟩) (c20 : PySem.W.codeIn K cd20 "_law_cells" = true) (k20 : PySem.W.keepIn K (.ref f20) = true)
    (a21 : PySem.W.nsIn K mainGlobals "_law_same" = some (some (.ref f21))) (l21 : K.lookup f21 = some ⟨oc21,od21,.func (PySem.W.fnOf "_law_same" "_law_same" (Jb2 Jee) (Jbk Jee) (Jag Jee) .none kV21 dc21 pm21 an21 cd21 ct21),sl21⟩) (c21 : PySem.W.codeIn K cd21 "_law_same" = true) (k21 : PySem.W.keepIn K (.ref f21) = true)
    (a22 : PySem.W.nsIn K mainGlobals "_law_right" = some (some (.ref f22))) (l22 : K.lookup f22 = some ⟨oc22,od22,.func (PySem.W.fnOf "_law_right" "_law_right" (Jb2 Jdr) (Jbk Jdr) (Jag Jdr) .none kV22 dc22 pm22 an22 cd22 ct22),sl22⟩) (c22 : PySem.W.codeIn K cd22 "_law_right" = true) (k22 : PySem.W.keepIn K (.ref f22) = true)
    (a23 : PySem.W.nsIn K mainGlobals "law" = some (some (.ref f23))) (l23 : K.lookup f23 = some ⟨oc23,od23,.func (PySem.W.fnOf "law" "law" (Jb2 Jl6) (Jbk Jl6) (Jag Jl6) .none kV23 dc23 pm23 an23 cd23 ct23),sl23⟩) (c23 : PySem.W.codeIn K cd23 "law" = true) (k23 : PySem.W.keepIn K (.ref f23) = true)
    (z1 : PySem.W.nsIn K mainGlobals "len" = some none)
    (z2 : PySem.W.nsIn K mainGlobals "isinstance" = some none)
    (z3 : PySem.W.nsIn K mainGlobals "all" = some none)
    (z4 : PySem.W.nsIn K mainGlobals "sorted" = some none)
    (z5 : PySem.W.nsIn K mainGlobals "min" = some none)
    (z6 : PySem.W.nsIn K mainGlobals "max" = some none)
    (z7 : PySem.W.nsIn K mainGlobals "abs" = some none)
    (z8 : PySem.W.nsIn K mainGlobals "repr" = some none)
    (z9 : PySem.W.nsIn K mainGlobals "set" = some none)
    (z10 : PySem.W.nsIn K mainGlobals "list" = some none)
    (z11 : PySem.W.nsIn K mainGlobals "tuple" = some none)
    (z12 : PySem.W.nsIn K mainGlobals "range" = some none)
    (z13 : PySem.W.nsIn K mainGlobals "int" = some none)
    (z14 : PySem.W.nsIn K mainGlobals "bool" = some none)
    (z15 : PySem.W.nsIn K mainGlobals "str" = some none)
    (zBz : PySem.W.nsIn K mainGlobals "zip" = some none)
    (zBe : PySem.W.nsIn K mainGlobals "enumerate" = some none)
    {ep : Nat} {h1 h2 h3 : Int} {t1 t2 t3 u1 u2 u3 : Tok} (aM : PySem.W.nsIn K mainGlobals "MOST_BOXES" = some (some (.ref dM))) (hM : (dM == sysModules) = false)
    (lM : K.lookup dM = some { cls := .type "dict",data := .dict #[⟨h1,.int 1 t1,.int 20 u1⟩,⟨h2,.int 2 t2,.int 10 u2⟩,⟨h3,.int 3 t3,.int 6 u3⟩] ep }) (e1 : h1 = hashInt 1) (e2 : h2 = hashInt 2) (e3 : h3 = hashInt 3)
    : ∃ fd : FuncData,(∀ (s : Shared) (v : Value),BindsTo s fd ⟨[v],[]⟩ [("script",v)]) ∧ ∀ base : Heap,K.In base → base.Ns mainGlobals mg → FnOk l.prog w K mg base CX0 10 fa fd ["script"] (Jpn K) := by
  have e := hfa.symm.trans (PySem.W.mg_of X G a23)
  cases e
  have F1 := Jdh (st := Je9) l1 c1 k1
  have b1 := F1.binds (ps := ["thing"]) fun _ _ _ _ _ _ us hl => by obtain ⟨_,rfl⟩ := tln1 hl; rfl
  have F2 := Jdh (st := Jfb) l2 c2 k2
  have b2 := F2.binds (ps := ["thing"]) fun _ _ _ _ _ _ us hl => by obtain ⟨_,rfl⟩ := tln1 hl; rfl
  have F3 := Jdh (st := Jdu) l3 c3 k3
  have b3 := F3.binds (ps := ["thing"]) fun _ _ _ _ _ _ us hl => by obtain ⟨_,rfl⟩ := tln1 hl; rfl
  have F4 := Jdh (st := Jga) l4 c4 k4
  have b4 := F4.binds (ps := ["ways","thing"]) fun _ _ _ _ _ _ us hl => by obtain ⟨_,_,rfl⟩ := tln2 hl; rfl
  have F5 := Jdh (st := Jfd) l5 c5 k5
  have b5 := F5.binds (ps := ["thing"]) fun _ _ _ _ _ _ us hl => by obtain ⟨_,rfl⟩ := tln1 hl; rfl
  have F6 := Jdh (st := Jed) l6 c6 k6
  have b6 := F6.binds (ps := ["heap"]) fun _ _ _ _ _ _ us hl => by obtain ⟨_,rfl⟩ := tln1 hl; rfl
  have F7 := Jdh (st := Jcy) l7 c7 k7
  have b7 := F7.binds (ps := ["boxes","way"]) fun _ _ _ _ _ _ us hl => by obtain ⟨_,_,rfl⟩ := tln2 hl; rfl
  have F8 := Jdh (st := Jdi) l8 c8 k8
  have b8 := F8.binds (ps := ["boxes","way"]) fun _ _ _ _ _ _ us hl => by obtain ⟨_,_,rfl⟩ := tln2 hl; rfl
  have F9 := Jdh (st := Jcz) l9 c9 k9
  have b9 := F9.binds (ps := ["boxes","numbers","way","ways"]) fun _ _ _ _ _ _ us hl => by obtain ⟨_,_,_,_,rfl⟩ := tln4 hl; rfl
  have F10 := Jdh (st := Jfa) l10 c10 k10
  have b10 := F10.binds (ps := ["heap"]) fun _ _ _ _ _ _ us hl => by obtain ⟨_,rfl⟩ := tln1 hl; rfl
  have F11 := Jdh (st := Jdf) l11 c11 k11
  have b11 := F11.binds (ps := ["heap"]) fun _ _ _ _ _ _ us hl => by obtain ⟨_,rfl⟩ := tln1 hl; rfl
  have F12 := Jdh (st := Je7) l12 c12 k12
  have b12 := F12.binds (ps := ["cell"]) fun _ _ _ _ _ _ us hl => by obtain ⟨_,rfl⟩ := tln1 hl; rfl
  have F13 := Jdh (st := Je8) l13 c13 k13
  have b13 := F13.binds (ps := ["well","many"]) fun _ _ _ _ _ _ us hl => by obtain ⟨_,_,rfl⟩ := tln2 hl; rfl
  have F14 := Jdh (st := Jds) l14 c14 k14
  have b14 := F14.binds (ps := ["well","many"]) fun _ _ _ _ _ _ us hl => by obtain ⟨_,_,rfl⟩ := tln2 hl; rfl
  have F15 := Jdh (st := Jdj) l15 c15 k15
  have b15 := F15.binds (ps := ["well","marks"]) fun _ _ _ _ _ _ us hl => by obtain ⟨_,_,rfl⟩ := tln2 hl; rfl
  have F16 := Jdh (st := Jef) l16 c16 k16
  have b16 := F16.binds (ps := ["well","box","marks"]) fun _ _ _ _ _ _ us hl => by obtain ⟨_,_,_,rfl⟩ := tln3 hl; rfl
  have F17 := Jdh (st := Jdk) l17 c17 k17
  have b17 := F17.binds (ps := ["well","ways","most"]) fun _ _ _ _ _ _ us hl => by obtain ⟨_,_,_,rfl⟩ := tln3 hl; rfl
  have F18 := Jdh (st := Jcv) l18 c18 k18
  have b18 := F18.binds (ps := ["well"]) fun _ _ _ _ _ _ us hl => by obtain ⟨_,rfl⟩ := tln1 hl; rfl
  have F19 := Jdh (st := Jeg) l19 c19 k19
  have b19 := F19.binds (ps := ["box","spot"]) fun _ _ _ _ _ _ us hl => by obtain ⟨_,_,rfl⟩ := tln2 hl; rfl
  have F20 := Jdh (st := Jca) l20 c20 k20
  have b20 := F20.binds (ps := ["heap"]) fun _ _ _ _ _ _ us hl => by obtain ⟨_,rfl⟩ := tln1 hl; rfl
  have F21 := Jdh (st := Jee) l21 c21 k21
  have b21 := F21.binds (ps := ["found","due"]) fun _ _ _ _ _ _ us hl => by obtain ⟨_,_,rfl⟩ := tln2 hl; rfl
  have F22 := Jdh (st := Jdr) l22 c22 k22
  have b22 := F22.binds (ps := ["heap"]) fun _ _ _ _ _ _ us hl => by obtain ⟨_,rfl⟩ := tln1 hl; rfl
  have F23 := Jdh (st := Jl6) l23 c23 k23
  have mM := PySem.W.mg_of X G aM
  have B : Blt mg := fun x hx => by
    simp only [Jmv,List.mem_cons,List.not_mem_nil,or_false] at hx
    rcases hx with rfl | rfl | rfl | rfl | rfl | rfl | rfl | rfl | rfl | rfl | rfl | rfl | rfl | rfl | rfl
    · exact PySem.W.mg_none_of X G z1
    · exact PySem.W.mg_none_of X G z2
    · exact PySem.W.mg_none_of X G z3
    · exact PySem.W.mg_none_of X G z4
    · exact PySem.W.mg_none_of X G z5
    · exact PySem.W.mg_none_of X G z6
    · exact PySem.W.mg_none_of X G z7
    · exact PySem.W.mg_none_of X G z8
    · exact PySem.W.mg_none_of X G z9
    · exact PySem.W.mg_none_of X G z10
    · exact PySem.W.mg_none_of X G z11
    · exact PySem.W.mg_none_of X G z12
    · exact PySem.W.mg_none_of X G z13
    · exact PySem.W.mg_none_of X G z14
    · exact PySem.W.mg_none_of X G z15
  have Bz : mg "zip" = none := PySem.W.mg_none_of X G zBz
  have Be : mg "enumerate" = none := PySem.W.mg_none_of X G zBe
  refine ⟨PySem.W.fnOf "law" "law" (Jb2 Jl6) (Jbk Jl6) (Jag Jl6) .none kV23 dc23 pm23 an23 cd23 ct23,fun s v => .of_eq rfl,fun base _ _ => ?_⟩
  have C_is_whole : CalP l.prog w K mg base "is_whole" 1 Jco := ⟨⟨["thing"],⟨_,_,Jo0 F1 B,b1,k1,PySem.W.mg_of X G a1⟩,fun ds r h => Jcl h⟩⟩
  have C_are_ways : CalP l.prog w K mg base "are_ways" 2 Jce := ⟨⟨["thing"],⟨_,_,Jo2 F2 B mM (tab3 hM lM e1 e2 e3 (by decide)) C_is_whole,b2,k2,PySem.W.mg_of X G a2⟩,fun ds r h => Jcl h⟩⟩
  have C_is_stretch : CalP l.prog w K mg base "is_stretch" 2 Jc6 := ⟨⟨["thing"],⟨_,_,Jma F3 B C_is_whole,b3,k3,PySem.W.mg_of X G a3⟩,fun ds r h => Jcl h⟩⟩
  have C_is_box : CalP l.prog w K mg base "is_box" 3 Je6 := ⟨⟨["ways","thing"],⟨_,_,Jsh F4 B C_are_ways C_is_stretch,b4,k4,PySem.W.mg_of X G a4⟩,fun ds r h => Jcl h⟩⟩
  have C_is_heap : CalP l.prog w K mg base "is_heap" 4 Jeb := ⟨⟨["thing"],⟨_,_,Jqu F5 B mM (tab3 hM lM e1 e2 e3 (by decide)) C_are_ways C_is_box,b5,k5,PySem.W.mg_of X G a5⟩,fun ds r h => Jcl h⟩⟩
  have C_need_heap : CalP l.prog w K mg base "need_heap" 5 Jc1 := ⟨⟨["heap"],⟨_,_,Jnj F6 B C_is_heap,b6,k6,PySem.W.mg_of X G a6⟩,fun ds r h => Jcl h⟩⟩
  have C_ends_along : CalP l.prog w K mg base "ends_along" 1 Jc7 := ⟨⟨["boxes","way"],⟨_,_,Jmb F7 B,b7,k7,PySem.W.mg_of X G a7⟩,fun ds r h => Jcl h⟩⟩
  have C_steps_along : CalP l.prog w K mg base "steps_along" 2 Jch := ⟨⟨["boxes","way"],⟨_,_,Jkz F8 B Bz C_ends_along,b8,k8,PySem.W.mg_of X G a8⟩,fun ds r h => Jcl h⟩⟩
  have C_cells_from0 : CalP l.prog w K mg base "cells_from" 2 (Jau 0) := ⟨⟨["boxes","numbers","way","ways"],⟨_,_,Js7 (f := f9) rfl,b9,k9,PySem.W.mg_of X G a9⟩,fun ds r h => by cases h⟩⟩
  have C_cells_from1 : CalP l.prog w K mg base "cells_from" 3 (Jau 1) := ⟨⟨["boxes","numbers","way","ways"],⟨_,_,Jeu F9 B C_steps_along (by decide) C_cells_from0,b9,k9,PySem.W.mg_of X G a9⟩,fun ds r h => Jcl h⟩⟩
  have C_cells_from2 : CalP l.prog w K mg base "cells_from" 4 (Jau 2) := ⟨⟨["boxes","numbers","way","ways"],⟨_,_,Jeu F9 B C_steps_along (by decide) C_cells_from1,b9,k9,PySem.W.mg_of X G a9⟩,fun ds r h => Jcl h⟩⟩
  have C_cells_from3 : CalP l.prog w K mg base "cells_from" 5 (Jau 3) := ⟨⟨["boxes","numbers","way","ways"],⟨_,_,Jeu F9 B C_steps_along (by decide) C_cells_from2,b9,k9,PySem.W.mg_of X G a9⟩,fun ds r h => Jcl h⟩⟩
  have C_cells_from4 : CalP l.prog w K mg base "cells_from" 6 (Jau 4) := ⟨⟨["boxes","numbers","way","ways"],⟨_,_,Jeu F9 B C_steps_along (by decide) C_cells_from3,b9,k9,PySem.W.mg_of X G a9⟩,fun ds r h => Jcl h⟩⟩
  have C_cells_from := C_cells_from4
  have C_cells_of : CalP l.prog w K mg base "cells_of" 7 Jdd := ⟨⟨["heap"],⟨_,_,Jo1 F10 B C_cells_from,b10,k10,PySem.W.mg_of X G a10⟩,fun ds r h => Jcl h⟩⟩
  have C_most_often : CalP l.prog w K mg base "most_often" 8 Ja3 := ⟨⟨["heap"],⟨_,_,Jl9 F11 B C_need_heap C_cells_of,b11,k11,PySem.W.mg_of X G a11⟩,fun ds r h => Jcl h⟩⟩
  have C_law_well : CalP l.prog w K mg base "_law_well" 1 Jdc := ⟨⟨["cell"],⟨_,_,Jow F12 B,b12,k12,PySem.W.mg_of X G a12⟩,fun ds r h => Jcl h⟩⟩
  have C_law_draw : CalM l.prog w K mg base "_law_draw" 1 Jal := ⟨⟨["well","many"],⟨_,_,Joz F13 B,b13,k13,PySem.W.mg_of X G a13⟩,fun ns ds r h => Jiq h⟩⟩
  have C_law_marks : CalM l.prog w K mg base "_law_marks" 2 Jbs := ⟨⟨["well","many"],⟨_,_,Jnl F14 B C_law_draw,b14,k14,PySem.W.mg_of X G a14⟩,fun ns ds r h => Jiq h⟩⟩
  have C_law_stretch : CalM l.prog w K mg base "_law_stretch" 2 Jbr := ⟨⟨["well","marks"],⟨_,_,Jk0 F15 B C_law_draw,b15,k15,PySem.W.mg_of X G a15⟩,fun ns ds r h => Jiq h⟩⟩
  have C_law_near : CalM l.prog w K mg base "_law_near" 3 Jb6 := ⟨⟨["well","box","marks"],⟨_,_,Jox F16 B C_law_draw C_law_stretch,b16,k16,PySem.W.mg_of X G a16⟩,fun ns ds r h => Jiq h⟩⟩
  have C_law_heap : CalM l.prog w K mg base "_law_heap" 4 Jcn := ⟨⟨["well","ways","most"],⟨_,_,Joy F17 B C_law_draw C_law_marks C_law_stretch C_law_near,b17,k17,PySem.W.mg_of X G a17⟩,fun ns ds r h => Jiq h⟩⟩
  have C_law_some_heap : CalM l.prog w K mg base "_law_some_heap" 5 Jbe := ⟨⟨["well"],⟨_,_,Jjk F18 B C_law_draw C_law_heap,b18,k18,PySem.W.mg_of X G a18⟩,fun ns ds r h => Jiq h⟩⟩
  have C_law_holds : CalP l.prog w K mg base "_law_holds" 1 Jcm := ⟨⟨["box","spot"],⟨_,_,Jnm F19 B,b19,k19,PySem.W.mg_of X G a19⟩,fun ds r h => Jcl h⟩⟩
  have C_law_cells : CalP l.prog w K mg base "_law_cells" 2 Jc2 := ⟨⟨["heap"],⟨_,_,Jnn F20 B Bz Be C_law_holds,b20,k20,PySem.W.mg_of X G a20⟩,fun ds r h => Jcl h⟩⟩
  have C_law_same0 : CalP l.prog w K mg base "_law_same" 0 (Jar 0) := ⟨⟨["found","due"],⟨_,_,Js7 (f := f21) rfl,b21,k21,PySem.W.mg_of X G a21⟩,fun ds r h => by cases h⟩⟩
  have C_law_same1 : CalP l.prog w K mg base "_law_same" 1 (Jar 1) := ⟨⟨["found","due"],⟨_,_,Jgb F21 B (by decide) C_law_same0,b21,k21,PySem.W.mg_of X G a21⟩,fun ds r h => Jcl h⟩⟩
  have C_law_same2 : CalP l.prog w K mg base "_law_same" 2 (Jar 2) := ⟨⟨["found","due"],⟨_,_,Jgb F21 B (by decide) C_law_same1,b21,k21,PySem.W.mg_of X G a21⟩,fun ds r h => Jcl h⟩⟩
  have C_law_same3 : CalP l.prog w K mg base "_law_same" 3 (Jar 3) := ⟨⟨["found","due"],⟨_,_,Jgb F21 B (by decide) C_law_same2,b21,k21,PySem.W.mg_of X G a21⟩,fun ds r h => Jcl h⟩⟩
  have C_law_same4 : CalP l.prog w K mg base "_law_same" 4 (Jar 4) := ⟨⟨["found","due"],⟨_,_,Jgb F21 B (by decide) C_law_same3,b21,k21,PySem.W.mg_of X G a21⟩,fun ds r h => Jcl h⟩⟩
  have C_law_same := C_law_same4
  have C_law_right : CalP l.prog w K mg base "_law_right" 9 Jcc := ⟨⟨["heap"],⟨_,_,Jnk F22 B C_law_cells C_law_same C_most_often,b22,k22,PySem.W.mg_of X G a22⟩,fun ds r h => Jcl h⟩⟩
  exact (JA2 F23 B C_law_well C_law_some_heap C_law_right C_law_draw C_most_often).imp (JBa Jvb)
theorem walk {l : PySem.W.OpenLaw} {q : Program} {loose : List Str} {XP : (Str → Option Value) → Heap → Prop} {YP : World → Heap → Prop} {d : DefRec} {K : Params → PySem.W.Frag} (hn : l.most = some 63) (hdf : d.params.defaults = [])
    (hY : ∀ (w : World) (h : Heap),YP w h → (K w.params).In h)
    (F : ∀ (w : World) (mg : Str → Option Value) (fa : Addr) (h : Heap),(K w.params).In h → h.Ns mainGlobals mg → mg d.name = some (.ref fa) →
      ∃ fd : FuncData,(∀ (s : Shared) (u : Value),BindsTo s fd ⟨[u],[]⟩ [("script",u)]) ∧ ∀ base : Heap,(K w.params).In base → base.Ns mainGlobals mg → FnOk l.prog w (K w.params) mg base CX0 10 fa fd ["script"] (Jpn (K w.params))) :
    PySem.W.WalkO q loose XP YP l.row.toRowW d [] (fun f vs => PySem.call f vs) :=
  L2.Jt9 (n := 63) (k := 10) (x := "script") (CX := CX0) (sp := Jpn) hn (by decide) hdf ⟨rfl,by decide,by decide,rfl⟩ hY F (fun _ _ a ns hl hO hS => ⟨a,ns,rfl,hO,hl,hS,fun _ => rfl⟩) fun _ _ _ _ z => z
end W23
open PySem PySem.W PyProof.Rows
set_option maxRecDepth 100000 in
set_option maxHeartbeats 0 in
theorem PySem.Challenge.cw_boxcover_k23_the_most_often_held_holds : PySem.Challenge.rw_boxcover_k23_the_most_often_held.Holds := by
  w_on; o_law; k_head; (case hw => w_witness2)
  k_fill
  refine W23.walk (l := PySem.Challenge.rw_boxcover_k23_the_most_often_held) rfl rfl (fun w h Y => PySem.W.kIn_of Y) ?F
  case F =>
    intro w mg fa h KX G hmg
    refine' W23.tops KX G hmg ?a1 ?l1 ?c1 ?k1 ?a2 ?l2 ?c2 ?k2 ?a3 ?l3 ?c3 ?k3 ?a4 ?l4 ?c4 ?k4 ?a5 ?l5 ?c5 ?k5 ?a6 ?l6 ?c6 ?k6 ?a7 ?l7 ?c7 ?k7 ?a8 ?l8 ?c8 ?k8 ?a9 ?l9 ?c9 ?k9 ?a10 ?l10 ?c10 ?k10 ?a11 ?l11 ?c11 ?k11 ?a12 ?l12 ?c12 ?k12 ?a13 ?l13 ?c13 ?k13 ?a14 ?l14 ?c14 ?k14 ?a15 ?l15 ?c15 ?k15 ?a16 ?l16 ?c16 ?k16 ?a17 ?l17 ?c17 ?k17 ?a18 ?l18 ?c18 ?k18 ?a19 ?l19 ?c19 ?k19 ?a20 ?l20 ?c20 ?k20 ?a21 ?l21 ?c21 ?k21 ?a22 ?l22 ?c22 ?k22 ?a23 ?l23 ?c23 ?k23 ?z1 ?z2 ?z3 ?z4 ?z5 ?z6 ?z7 ?z8 ?z9 ?z10 ?z11 ?z12 ?z13 ?z14 ?z15 ?zBz ?zBe ?aM ?hM ?lM ?e1 ?e2 ?e3
    (case a1 => k_is); (case l1 => k_is); (case c1 => k_is); (case k1 => k_is)
    (case a2 => k_is); (case l2 => k_is); (case c2 => k_is); (case k2 => k_is)
    (case a3 => k_is); (case l3 => k_is); (case c3 => k_is); (case k3 => k_is)
    (case a4 => k_is); (case l4 => k_is); (case c4 => k_is); (case k4 => k_is)
    (case a5 => k_is); (case l5 => k_is); (case c5 => k_is); (case k5 => k_is)
    (case a6 => k_is); (case l6 => k_is); (case c6 => k_is); (case k6 => k_is)
    (case a7 => k_is); (case l7 => k_is); (case c7 => k_is); (case k7 => k_is)
    (case a8 => k_is); (case l8 => k_is); (case c8 => k_is); (case k8 => k_is)
    (case a9 => k_is); (case l9 => k_is); (case c9 => k_is); (case k9 => k_is)
    (case a10 => k_is); (case l10 => k_is); (case c10 => k_is); (case k10 => k_is)
    (case a11 => k_is); (case l11 => k_is); (case c11 => k_is); (case k11 => k_is)
    (case a12 => k_is); (case l12 => k_is); (case c12 => k_is); (case k12 => k_is)
    (case a13 => k_is); (case l13 => k_is); (case c13 => k_is); (case k13 => k_is)
    (case a14 => k_is); (case l14 => k_is); (case c14 => k_is); (case k14 => k_is)
    (case a15 => k_is); (case l15 => k_is); (case c15 => k_is); (case k15 => k_is)
    (case a16 => k_is); (case l16 => k_is); (case c16 => k_is); (case k16 => k_is)
    (case a17 => k_is); (case l17 => k_is); (case c17 => k_is); (case k17 => k_is)
    (case a18 => k_is); (case l18 => k_is); (case c18 => k_is); (case k18 => k_is)
    (case a19 => k_is); (case l19 => k_is); (case c19 => k_is); (case k19 => k_is)
    (case a20 => k_is); (case l20 => k_is); (case c20 => k_is); (case k20 => k_is)
    (case a21 => k_is); (case l21 => k_is); (case c21 => k_is); (case k21 => k_is)
    (case a22 => k_is); (case l22 => k_is); (case c22 => k_is); (case k22 => k_is)
    (case a23 => k_is); (case l23 => k_is); (case c23 => k_is); (case k23 => k_is)
    (case z1 => k_is); (case z2 => k_is); (case z3 => k_is); (case z4 => k_is); (case z5 => k_is); (case z6 => k_is); (case z7 => k_is); (case z8 => k_is); (case z9 => k_is); (case z10 => k_is); (case z11 => k_is); (case z12 => k_is); (case z13 => k_is); (case z14 => k_is); (case z15 => k_is)
    (case zBz => k_is)
    (case zBe => k_is)
    (case aM => k_is); (case lM => k_is)
    (case hM => rfl); (case e1 => rfl); (case e2 => rfl); (case e3 => rfl)
end
